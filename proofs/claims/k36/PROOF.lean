import PyProof.Rows.All
import Wide.All
import OpenK.AllK
import Wide.FinOn
import Lean
import PyProof.EqAt
import PyProof.EqKinds
import PyProof.TupleCall
import KE.KIsAll
import KE.KItem
import KE.KxBytes
import KE.KRevIter
import KE.KDictOf
import KE.KTurnsDict
import KE.KPairComp
import PyProof.Rows.SortShell
import KE.KDictList
import PyProof.AttrMissSeq
import PyProof.DictUpdate
import PyProof.WalksS
import PyProof.ListRange
import KE.KEqDict
import PyProof.SumWalkG
import PyProof.LongRange
import PyProof.ReprRoads
import PyProof.ReprLen
import PyProof.StationsW
import PyProof.Rows.TopTwo
import OpenK.KOwn
import PyProof.RulesDel
import PyProof.Rows.CatchOwn
import PyProof.RulesAs
import PyProof.ExcArgs
import PyProof.IsRules
import PySem.Challenge.RW_likehalves_k36_whole_as_anew
noncomputable section
set_option compiler.extract_closed false
set_option genSizeOf false
set_option Elab.async false
set_option linter.all false
set_option maxRecDepth 100000
namespace L2
open PySem PySem.Spec PyProof.Rows
abbrev Key:=Sum Int Str
def keyIs:Key->Value->Bool
 | .inl k,v=>Value.isInt k v
 | .inr x,v=>Value.isStrOf x v
def keyH(w:World):Key->Int
 | .inl k=>hashInt k
 | .inr x=>hashStr w x
theorem x_:∀ {k:Key} {v:Value},keyIs k v=true->(∃i t,k=Sum.inl i/\v=Value.int i t)\/(∃x t,k=Sum.inr x/\v=Value.str x t)
 | .inl i,v,h=>by
  obtain⟨t,e⟩:=Value.isInt_shape (k:=i) (v:=v) h
  exact .inl ⟨i,t,rfl,e⟩
 | .inr x,v,h=>by
  obtain⟨t,e⟩:=Value.isStrOf_shape (x:=x) (v:=v) h
  exact .inr ⟨x,t,rfl,e⟩
theorem ly_(i:Int)(t:Tok):keyIs (.inl i) (.int i t)=true:=by simp[keyIs,Value.isInt]
theorem lx_(x:Str)(t:Tok):keyIs (.inr x) (.str x t)=true:=by simp[keyIs,Value.isStrOf]
theorem qT_(a b:Int):decide ((Sum.inl a:Key)=Sum.inl b)=(a==b):=by
 by_cases e:a=b
 ·subst e;simp
 ·have h:¬ (Sum.inl a:Key)=Sum.inl b:=fun q=>e (Sum.inl.inj q)
  rw[decide_eq_false h]
  exact(beq_eq_false_iff_ne.mpr e).symm
theorem qQ_(a b:Str):decide ((Sum.inr a:Key)=Sum.inr b)=decide (a=b):=by
 by_cases e:a=b
 ·subst e;simp
 ·have h:¬ (Sum.inr a:Key)=Sum.inr b:=fun q=>e (Sum.inr.inj q)
  rw[decide_eq_false h,decide_eq_false e]
theorem qS_(a:Int)(b:Str):decide ((Sum.inl a:Key)=Sum.inr b)=false:=decide_eq_false (fun q=>nomatch q)
theorem qR_(a:Str)(b:Int):decide ((Sum.inr a:Key)=Sum.inl b)=false:=decide_eq_false (fun q=>nomatch q)
def u_(prog:Program)(w:World):PySem.KeyKind prog w Key where
 is:=keyIs
 hash:=keyH w
 inj:=fun v a b ha hb=>by
  rcases x_ ha with⟨i,t,rfl,rfl⟩ | ⟨x,t,rfl,rfl⟩
  ·rcases x_ hb with⟨j,u,rfl,e⟩ | ⟨y,u,rfl,e⟩
   ·injection e with e1 _;rw[e1]
   ·exact nomatch e
  ·rcases x_ hb with⟨j,u,rfl,e⟩ | ⟨y,u,rfl,e⟩
   ·exact nomatch e
   ·injection e with e1 _;rw[e1]
 byValue:=fun k v h=>by
  rcases x_ h with⟨i,t,rfl,rfl⟩ | ⟨x,t,rfl,rfl⟩ <;> rfl
 pyHash:=fun hv h=>by
  rcases x_ hv with⟨i,t,rfl,rfl⟩ | ⟨x,t,rfl,rfl⟩
  ·exact wpAny_pyHash_int h
  ·exact wpAny_pyHash_str h
 eqBool:=fun hu hv h=>by
  rcases x_ hu with⟨i,t,rfl,rfl⟩ | ⟨x,t,rfl,rfl⟩
  ·rcases x_ hv with⟨j,u,rfl,rfl⟩ | ⟨y,u,rfl,rfl⟩
   ·rw[qT_] at h;exact wpAny_eqBool_int h
   ·rw[qS_] at h;exact SeqAt.EqAt.int_str i t y u _ _ _ _ h
  ·rcases x_ hv with⟨j,u,rfl,rfl⟩ | ⟨y,u,rfl,rfl⟩
   ·rw[qR_] at h;exact SeqAt.EqAt.str_int x t j u _ _ _ _ h
   ·rw[qQ_] at h;exact wpAny_eqBool_str h
 «strs»:=fun k x t v h=>by
  rcases x_ h with⟨i,u,rfl,e⟩ | ⟨y,u,rfl,e⟩
  ·exact nomatch e
  ·injection e with e1 _
   subst e1
   cases v <;> rfl
theorem hD_(prog:Program)(w:World)(i:Int)(t:Tok):(u_ prog w).is (.inl i) (.int i t)=true:=ly_ i t
theorem hC_(prog:Program)(w:World)(x:Str)(t:Tok):(u_ prog w).is (.inr x) (.str x t)=true:=lx_ x t
inductive V where
 | non | bl (b:Bool) | int (i:Int) | str (x:Str) | byt (b:Array UInt8) | flt (b:UInt64) | ref (a:Addr) | ty (n:String)
 deriving DecidableEq
def RelV:V->Value->Prop
 | .non,u=>u=Value.none
 | .bl b,u=>u=Value.bool b
 | .int i,u=>∃t,u=Value.int i t
 | .str x,u=>∃t,u=Value.str x t
 | .byt b,u=>∃t,u=Value.bytes b t
 | .flt b,u=>∃t,u=Value.float b t
 | .ref a,u=>u=Value.ref a
 | .ty n,u=>u=Value.type n
abbrev Vals:List V->List Value->Prop:=Paired RelV
theorem Vals.length{xs:List V}{us:List Value}(r:Vals xs us):xs.length=us.length:=Paired.length r
theorem Vals.get:∀ {xs:List V} {us:List Value} {i:Nat} {x:V},Vals xs us->xs[i]?=some x->∃u,us[i]?=some u/\RelV x u
 | _,_,_,_,.nil,e=>by simp at e
 | _,_,0,_,.cons r _,e=>by simp at e;subst e;exact⟨_,rfl,r⟩
 | _,_,i+1,x,.cons _ t,e=>by
  obtain⟨u,h1,h2⟩:=Vals.get (i:=i) (x:=x) t (by simpa using e)
  exact⟨u,by simpa using h1,h2⟩
theorem Vals.set{x:V}{u:Value}(r:RelV x u):∀ {xs:List V} {us:List Value} (i:Nat),Vals xs us->Vals (xs.set i x) (us.set i u)
 | _,_,_,.nil=>.nil
 | _,_,0,.cons _ t=>.cons r t
 | _,_,i+1,.cons q t=>.cons q (Vals.set r i t)
theorem Vals.append{xs ys:List V}{us ws:List Value}(a:Vals xs us)(b:Vals ys ws):Vals (xs++ys) (us++ws):=by
 induction a with
 | nil=>exact b
 | cons r _ ih=>exact .cons r ih
theorem Vals.take:∀ {xs:List V} {us:List Value} (n:Nat),Vals xs us->Vals (xs.take n) (us.take n)
 | _,_,0,_=>.nil
 | _,_,_+1,.nil=>.nil
 | _,_,n+1,.cons r t=>.cons r (Vals.take n t)
theorem Vals.drop:∀ {xs:List V} {us:List Value} (n:Nat),Vals xs us->Vals (xs.drop n) (us.drop n)
 | _,_,0,r=>r
 | _,_,_+1,.nil=>.nil
 | _,_,n+1,.cons _ t=>Vals.drop n t
theorem Vals.none_of:∀ {xs:List V} {us:List Value} {i:Nat},Vals xs us->xs[i]?=none->us[i]?=none:=fun {xs us i} r e=>by
 have h1:=r.length
 have h2:xs.length<=i:=List.getElem?_eq_none_iff.mp e
 exact List.getElem?_eq_none_iff.mpr (by omega)
def RelO:Option V->Option Value->Prop
 | some v,some u=>RelV v u
 | none,none=>True
 | _,_=>False
def KV{κ:Type}:List (κ×V)->List (κ×Value)->Prop:=Paired fun(p:κ×V) (q:κ×Value)=>p.1=q.1/\RelV p.2 q.2
def kV:Key->V
 | .inl i=>.int i
 | .inr x=>.str x
inductive HO where
 | lst (xs:List V)
 | tup (xs:List V)
 | dK (kvs:List (Key×V)) | dT (kvs:List (List Key×V))
 | set (S:Int->Bool) (n:Nat)
 | ins (C dx:Addr) (fs:List (Str×V))
 | own (x:Addr)
 | xd (fs:List (Str×V))
 | met (f x:Addr)
 | rng (lo hi:Int)
 | frz (o:Obj) (u:HO)
 | tbl (ps:Array Value)
 | ext (φ:Heap->Prop)
abbrev Hp:=Addr->Option HO
def upd(H:Hp)(a:Addr)(o:HO):Hp:=fun b=>if b=a then some o else H b
theorem d_{H:Hp}{a:Addr}{o:HO}:upd H a o a=some o:=by unfold upd;rw[if_pos rfl]
theorem i_{H:Hp}{a b:Addr}{o:HO}(h:b≠a):upd H a o b=H b:=by unfold upd;rw[if_neg h]
theorem pu_{H:Hp}{a b:Addr}{o u:HO}(h:H a=some o)(h':H b=some u)(d:o≠u):a≠b:=by
 intro e;subst e;rw[h] at h';exact d (Option.some.inj h')
theorem k_{H:Hp}{a b:Addr}{o:HO}(h:H a=some o)(h':H b=none):a≠b:=by
 intro e;subst e;rw[h] at h';cases h'
section
variable(P:Program)(w:World)
def ObjOk(H:Hp)(h:Heap)(a:Addr):HO->Prop
 | .lst xs=>xs.length<=sizeLine/\∃(its:List Value) (n:Nat),Vals xs its/\h.get? a=some {cls:=.type "list",data:=.seq its.toArray n}
 | .tup xs=>xs.length<=sizeLine/\∃its:List Value,Vals xs its/\IsTup h a its.toArray
 | .dK kvs=>kvs.length<=sizeLine/\(a==sysModules)=false/\∃vs,KV kvs vs/\h.DictOf (u_ P w) a vs
 | .dT kvs=>kvs.length<=sizeLine/\(a==sysModules)=false/\∃xs:List (List Key×Addr×Value),
   Paired (fun(p:List Key×V) (q:List Key×Addr×Value)=>p.1=q.1/\H q.2.1=some (.tup (p.1.map kV))/\RelV p.2 q.2.2) kvs xs/\
   ∃o es ep,h.get? a=some o/\o.ExactDict/\o.data=.dict es ep/\es.toList=xs.map (entryOfKey (tupleKind (u_ P w)))/\(xs.map (·.1)).Nodup
 | .set S n=>h.SetOf (intKind P w) a S n
 | .ins C dx fs=>H dx=some (.own a)/\fs.length<=1000/\dx≠a/\h.get? a=some (PySem.W.instObj C dx)/\
   ∃mA,h.Ns1 dx mA/\(∀f,RelO (fs.lookup f) (mA f))/\PySem.Within mA (fs.map (·.1))
 | .own _=>∃o,h.get? a=some o
 | .xd fs=>∃mA,h.Ns1 a mA/\∀f,RelO (fs.lookup f) (mA f)
 | .rng lo hi=>∃t u v,h.get? a=some {cls:=.type "range",data:=.fields #[.int lo t,.int hi u,.int 1 v]}
 | .frz o u=>h.get? a=some o/\ObjOk H h a u
 | .tbl ps=>h.get? a=some {cls:=.none,data:=.fields ps}
 | .met f x=>h.get? a=some (PySem.W.methodObj (.ref f) (.ref x))
 | .ext φ=>φ h/\(∃o,h.get? a=some o)/\∀h1 h2:Heap,φ h1->(∀o,h1.get? a=some o->h2.get? a=some o)->φ h2
def HOk(H:Hp)(h:Heap):Prop:=∀a o,H a=some o->ObjOk P w H h a o
end
section
variable{P:Program}{w:World}{H H':Hp}{h h':Heap}{a:Addr}{o:HO}
theorem ObjOk.lt(x:ObjOk P w H h a o):a<h.objs.size:=by
 cases o with
 | lst xs=>obtain⟨_,_,_,_,e⟩:=x;exact Heap.lt_size e
 | tup xs=>obtain⟨_,_,_,p⟩:=x;exact p.lt
 | dK kvs=>obtain⟨_,_,_,_,o,_,_,e,_⟩:=x;exact Heap.lt_size e
 | dT kvs=>obtain⟨_,_,_,_,o,_,_,e,_⟩:=x;exact Heap.lt_size e
 | set S n=>obtain⟨o,_,_,_,e,_⟩:=x;exact Heap.lt_size e
 | ins C dx fs=>obtain⟨_,_,_,e,_⟩:=x;exact Heap.lt_size e
 | own y=>obtain⟨_,e⟩:=x;exact Heap.lt_size e
 | xd fs=>obtain⟨_,⟨_,_,_,e,_⟩,_⟩:=x;exact Heap.lt_size e
 | rng lo hi=>obtain⟨_,_,_,e⟩:=x;exact Heap.lt_size e
 | frz ob u=>obtain⟨e,_⟩:=x;exact Heap.lt_size e
 | tbl ps=>exact Heap.lt_size (show h.get? a=some _ from x)
 | met f y=>exact Heap.lt_size (show h.get? a=some _ from x)
 | ext φ=>obtain⟨_,⟨_,e⟩,_⟩:=x;exact Heap.lt_size e
theorem Paired.mapP{α β:Type}{F G:α->β->Prop}{l₁:List α}{l₂:List β}(h:Paired F l₁ l₂)(f:∀a b,F a b->G a b):Paired G l₁ l₂:=by
 induction h with
 | nil=>exact .nil
 | cons r _ ih=>exact .cons (f _ _ r) ih
theorem ObjOk.stay(x:ObjOk P w H h a o)(k:∀b u,(b=a\/H b=some (.own a))->h.get? b=some u->h'.get? b=some u)
  (ho:∀b,H b=some (.own a)->H' b=some (.own a)) (ht:∀b xs,H b=some (.tup xs)->H' b=some (.tup xs)):ObjOk P w H' h' a o:=by
 induction o with
 | lst xs=>obtain⟨z,its,n,r,e⟩:=x;exact⟨z,its,n,r,k _ _ (.inl rfl) e⟩
 | tup xs=>obtain⟨z,its,r,ob,e,c⟩:=x;exact⟨z,its,r,ob,k _ _ (.inl rfl) e,c⟩
 | dK kvs=>obtain⟨z,y,vs,r,ob,es,ep,e,c⟩:=x;exact⟨z,y,vs,r,ob,es,ep,k _ _ (.inl rfl) e,c⟩
 | dT kvs =>
  obtain⟨z,y,xs,r,ob,es,ep,e,c⟩:=x
  exact⟨z,y,xs,Paired.mapP r fun p q z=>⟨z.1,ht _ _ z.2.1,z.2.2⟩,ob,es,ep,k _ _ (.inl rfl) e,c⟩
 | set S n=>obtain⟨ob,es,ep,t,e,c⟩:=x;exact⟨ob,es,ep,t,k _ _ (.inl rfl) e,c⟩
 | ins C dx fs =>
  obtain⟨d,z,ne,e,mA,⟨od,es,ep,e2,c⟩,r⟩:=x
  exact⟨ho _ d,z,ne,k _ _ (.inl rfl) e,mA,⟨od,es,ep,k _ _ (.inr d) e2,c⟩,r⟩
 | own y=>obtain⟨ob,e⟩:=x;exact⟨ob,k _ _ (.inl rfl) e⟩
 | xd fs=>obtain⟨mA,⟨od,es,ep,e,c⟩,r⟩:=x;exact⟨mA,⟨od,es,ep,k _ _ (.inl rfl) e,c⟩,r⟩
 | rng lo hi=>obtain⟨t,u,v,e⟩:=x;exact⟨t,u,v,k _ _ (.inl rfl) e⟩
 | frz ob u ih=>obtain⟨e,q⟩:=x;exact⟨k _ _ (.inl rfl) e,ih q⟩
 | tbl ps =>
  have e:h.get? a=some {cls:=.none,data:=.fields ps}:=x
  show h'.get? a=some {cls:=.none,data:=.fields ps}
  exact k a _ (.inl rfl) e
 | met f y =>
  have e:h.get? a=some (PySem.W.methodObj (.ref f) (.ref y)):=x
  show h'.get? a=some (PySem.W.methodObj (.ref f) (.ref y))
  exact k a _ (.inl rfl) e
 | ext φ=>obtain⟨p,⟨o,e⟩,st⟩:=x;exact⟨st _ _ p fun o q=>k _ _ (.inl rfl) q,⟨o,k _ _ (.inl rfl) e⟩,st⟩
theorem HOk.lt(x:HOk P w H h)(e:H a=some o):a<h.objs.size:=(x a o e).lt
theorem HOk.fresh(x:HOk P w H h)(e:h.objs.size<=a):H a=none:=by
 cases q:H a with
 | none=>rfl
 | some u=>exact absurd (Nat.lt_of_lt_of_le (x.lt q) e) (Nat.lt_irrefl _)
theorem HOk.kept(x:HOk P w H h)(k:∀b u,h.get? b=some u->h'.get? b=some u):HOk P w H h':=fun a o e =>
 (x a o e).stay (fun b u _ q=>k b u q) (fun _ q=>q) fun _ _ q=>q
theorem HOk.laid(x:HOk P w H h)(k:∀b u,h.get? b=some u->h'.get? b=some u)(hp:h.objs.size<=a)(new:ObjOk P w (upd H a o) h' a o):HOk P w (upd H a o) h':=fun b u e=>by
 have hn:=x.fresh hp
 by_cases hb:b=a
 ·subst hb;rw[d_] at e;cases e;exact new
 ·rw[i_ hb] at e
  exact(x b u e).stay (fun c v _ q=>k c v q) (fun c q=>by rw[i_ (k_ q hn)];exact q) fun c xs q=>by rw[i_ (k_ q hn)];exact q
end
def Rd(H:Hp)(a:Addr)(u:HO):Prop:=H a=some u\/∃o,H a=some (.frz o u)
theorem Rd.ok{P:Program}{w:World}{H:Hp}{h:Heap}{a:Addr}{u:HO}(r:Rd H a u)(x:HOk P w H h):ObjOk P w H h a u:=by
 rcases r with r | ⟨o,r⟩
 ·exact x a u r
 ·obtain⟨_,q⟩:=x a _ r
  exact q
def Mut:Option HO->Prop
 | some (.lst _)=>True
 | some (.dK _)=>True
 | some (.dT _)=>True
 | some (.set _ _)=>True
 | some (.ins _ _ _)=>True
 | some (.ext _)=>True
 | _=>False
section
variable{P:Program}{w:World}{H:Hp}{h h':Heap}{x e:Addr}{o':HO}
theorem HOk.write(ok:HOk P w H h)(mu:Mut (H x))(he:e=x\/H e=some (.own x))(k:∀b u,b≠e->h.get? b=some u->h'.get? b=some u)(heo:∃u,h'.get? e=some u)
  (new:ObjOk P w (upd H x o') h' x o'):HOk P w (upd H x o') h':=fun b u q=>by
 have nown:∀c y,H c=some (.own y)->c≠x:=fun c y r z=>by subst z;rw[r] at mu;exact mu
 have ntup:∀c xs,H c=some (.tup xs)->c≠x:=fun c xs r z=>by subst z;rw[r] at mu;exact mu
 by_cases hb:b=x
 ·subst hb;rw[d_] at q;cases q;exact new
 ·rw[i_ hb] at q
  by_cases hbe:b=e
  ·have q':H b=some (.own x):=by
    rcases he with z | z
    ·exact absurd (hbe.trans z) hb
    ·rw[hbe];exact z
   rw[q] at q';cases q'
   obtain⟨v,hv⟩:=heo
   exact⟨v,by rw[hbe];exact hv⟩
  ·refine(ok b u q).stay (fun c v hc r=>k c v ?_ r) (fun c r=>by rw[i_ (nown c b r)];exact r) fun c xs r=>by rw[i_ (ntup c xs r)];exact r
   rcases hc with rfl | hc
   ·exact hbe
   ·rintro rfl
    rcases he with z | z
    ·exact nown c b hc z
    ·rw[hc] at z;cases z;exact hb rfl
end
structure Un(fs ex:List Addr)(H H':Hp)(h h':Heap):Prop where
 keep:∀b o,h.get? b=some o->H b=none->b∉fs->b∉ex->h'.get? b=some o
 slot:∀b o,h.get? b=some o->H b=none->b∈fs->b∉ex->∃sl,h'.get? b=some {o with slots:=sl}
 free:∀b o,h.get? b=some o->H b=none->b∉ex->H' b=none
 there:∀b o,h.get? b=some o->b∉ex->∃o',h'.get? b=some o'
 tups:∀b xs,H b=some (.tup xs)->H' b=some (.tup xs)
 frzs:∀b o u,H b=some (.frz o u)->H' b=some (.frz o u)
 tbls:∀b ps,H b=some (.tbl ps)->∃more,H' b=some (.tbl (ps++more))
section
variable{fs fs' ex ex':List Addr}{H H1 H2:Hp}{h h1 h2 h':Heap}{a x e:Addr}{o:HO}
theorem Un.any(u:Un fs ex H H1 h h1){b:Addr}{ob:Obj}(q:h.get? b=some ob)(n:H b=none)(hx:b∉ex):∃sl,h1.get? b=some {ob with slots:=sl}:=by
 by_cases hb:b∈fs
 ·exact u.slot b ob q n hb hx
 ·exact⟨ob.slots,u.keep b ob q n hb hx⟩
theorem Un.kept(k:∀b u,h.get? b=some u->h'.get? b=some u):Un fs ex H H h h' :=
 ⟨fun b ob q _ _ _=>k b ob q,fun b ob q _ _ _=>⟨ob.slots,k b ob q⟩,fun _ _ _ n _=>n,fun b ob q _=>⟨ob,k b ob q⟩,fun _ _ q=>q,fun _ _ _ q=>q,fun _ ps q=>⟨#[],by rw[q];simp⟩⟩
theorem Un.refl:Un fs ex H H h h:=Un.kept fun _ _ q=>q
theorem Un.laid(k:∀b u,h.get? b=some u->h'.get? b=some u)(hp:h.objs.size<=a)(hn:H a=none):Un fs ex H (upd H a o) h h' where
 keep:=fun b u q _ _ _=>k b u q
 slot:=fun b u q _ _ _=>⟨u.slots,k b u q⟩
 free:=fun b u q n _=>by rw[i_ (Nat.ne_of_lt (Nat.lt_of_lt_of_le (Heap.lt_size q) hp))];exact n
 there:=fun b u q _=>⟨u,k b u q⟩
 tups:=fun b xs q=>by rw[i_ (k_ q hn)];exact q
 frzs:=fun b u xs q=>by rw[i_ (k_ q hn)];exact q
 tbls:=fun b ps q=>⟨#[],by rw[i_ (k_ q hn),q];simp⟩
theorem Un.write(mu:Mut (H x))(he:e=x\/H e=some (.own x))(k:∀b u,b≠e->h.get? b=some u->h'.get? b=some u)(heo:∃u,h'.get? e=some u):Un fs ex H (upd H x o) h h':=by
 have hx:∀b,H b=none->b≠x:=fun b n z=>by subst z;rw[n] at mu;exact mu
 have hb:∀b,H b=none->b≠e:=fun b n z=>by
  subst z
  rcases he with r | r
  ·exact hx b n r
  ·rw[n] at r;cases r
 have hm:∀b u,H b=some u->¬ Mut (some u)->b≠x:=fun b u q nm z=>by subst z;rw[q] at mu;exact nm mu
 refine⟨fun b u q n _ _=>k b u (hb b n) q,fun b u q n _ _=>⟨u.slots,k b u (hb b n) q⟩,fun b u q n _=>by rw[i_ (hx b n)];exact n,fun b u q _=>?_,
  fun b xs q=>by rw[i_ (hm b _ q fun z=>z)];exact q,fun b u xs q=>by rw[i_ (hm b _ q fun z=>z)];exact q,fun b ps q=>⟨#[],by rw[i_ (hm b _ q fun z=>z),q];simp⟩⟩
 by_cases hbe:b=e
 ·subst hbe;exact heo
 ·exact⟨u,k b u hbe q⟩
end
def trk(h:Heap)(H:Hp):List Addr:=(List.range h.objs.size).filter fun a=>(H a).isSome
def hidT(h:Heap)(H:Hp):Heap:=PySem.W.hideAll h (trk h H)
theorem lF_(h:Heap)(H:Hp):(hidT h H).objs.size=h.objs.size:=PySem.W.hideAll_size _ _
theorem nn_{h:Heap}{H:Hp}{b:Addr}{o:Obj}(e:h.get? b=some o)(n:H b=none):(hidT h H).get? b=some o :=
 PySem.W.hideAll_get _ e fun hm=>by
  have q:(H b).isSome=true:=(List.mem_filter.mp hm).2
  rw[n] at q;simp at q
theorem pp_{h:Heap}{H:Hp}{b:Addr}{o:Obj}(e:(hidT h H).get? b=some o):h.get? b=some o/\H b=none:=by
 have e':h.get? b=some o:=PySem.W.of_hideAll (trk h H) e
 refine⟨e',?_⟩
 cases q:H b with
 | none=>rfl
 | some x =>
  have hm:b∈trk h H:=List.mem_filter.mpr ⟨List.mem_range.mpr (Heap.lt_size e'),by simp[q]⟩
  have z:(hidT h H).get? b=none:=PySem.W.hideAll_none (trk h H) hm
  rw[z] at e;cases e
def pT_(g h:Heap)(L:Addr):List (Addr×Obj):=(List.range h.objs.size).filterMap fun a=>if a=L\/(g.get? a).isSome=true then none else (h.get? a).map fun o=>(a,o)
def rest(g h:Heap)(L d:Addr):List (Addr×Obj):=(pT_ g h L).filter fun p=>decide (p.1≠d)
structure Mod(K:PySem.W.Frag)(mg:Str->Option Value)(base:Heap):Prop where
 kin:K.In base
 glob:base.Ns mainGlobals mg
 blt:∃mb,base.Ns builtinsNs mb/\∀x:Str,x≠"__name__"->mb x=bootBuiltins x
 nolimit:base.NoLimit
structure Cx where
 prog:Program
 w:World
 K:PySem.W.Frag
 mg:Str->Option Value
 base:Heap
 A:Around
 N:List Str
 s₀:Shared
 H₀:Hp
 env:Env
 outer:List Env
 stack:List Env
 ex:List Addr
 fn:Str->Bool
 calm:Bool
 pn:List (Addr×Obj)
 xe:Value->Shared->Prop
def frs(l:List Env):List Addr:=l.filterMap (·.frame)
abbrev Cx.fs(X:Cx):List Addr:=frs X.outer
def Vis(sc:Scope)(x:Str):Prop:=sc.names.lookup x=some .local\/sc.names.lookup x=some .cell\/sc.names.lookup x=some .free
def Loc(sc:Scope)(x:Str):Prop:=sc.names.lookup x=some .local\/sc.names.lookup x=some .cell
def Look(env:Env)(h:Heap)(m:Str->Option Value)(x:Str)(u:Value):Prop :=
 (env.kindOf x=some .local/\m x=some u)\/((env.kindOf x=some .cell\/env.kindOf x=some .free)/\∃c,env.cells.lookup x=some c/\h.IsCell c (some u))
structure Cx.Ok(X:Cx):Prop where
 mod:Mod X.K X.mg X.base
 kind:X.env.scope.kind=.function
 glob:X.env.globals=mainGlobals
 blt:X.env.builtins=builtinsNs
 above:X.s₀.heap.objs.size<=X.env.locals
 inj:∀x y c,X.env.cells.lookup x=some c->X.env.cells.lookup y=some c->x=y
 has:∀x,(X.env.kindOf x=some .cell\/X.env.kindOf x=some .free)->∃c,X.env.cells.lookup x=some c
 cab:∀x c,X.fn x=true->X.env.cells.lookup x=some c->X.s₀.heap.objs.size<=c
 hd:X.calm=true->X.A.handled=none
 frames:X.A.frames=some X.stack
 stk:X.stack=X.outer\/(X.stack=X.env::X.outer/\X.env.frame=some X.env.locals)
 exf:∀b∈X.ex,b≠X.env.locals/\∀x c,X.env.cells.lookup x=some c->c≠b
 bs:∀b o,X.base.get? b=some o->X.s₀.heap.get? b=some o/\X.H₀ b=none
 bsz:X.base.objs.size<=X.s₀.heap.objs.size
 noex:∀b o,X.base.get? b=some o->b∉X.ex
 exfs:∀b∈X.ex,b∉X.fs
 funs:X.s₀.heap.FunFrames X.base X.outer
 frf:∀b∈X.fs,X.H₀ b=none
structure Inv(X:Cx)(pins:List (Addr×Obj))(σ:List (Option V))(H:Hp)(s:Shared):Prop where
 ok:X.Ok
 os:s.os=X.s₀.os
 bare:AllBare s.gens
 base:Un X.fs X.ex X.H₀ H X.s₀.heap s.heap
 loc:∃m,s.heap.Ns X.env.locals m/\∀(i:Nat) (x:Str) (v:V),X.N[i]?=some x->σ[i]?=some (some v)->Vis X.env.scope x->∃u,RelV v u/\Look X.env s.heap m x u
 cell:∀x c,X.env.cells.lookup x=some c->∃v,s.heap.IsCell c v
 free:H X.env.locals=none
 freeC:∀x c,X.env.cells.lookup x=some c->H c=none
 pin:∀p∈X.pn++pins,s.heap.get? p.1=some p.2/\H p.1=none/\p.1≠X.env.locals/\p.1∉X.fs/\∀v,p.2.data≠.cell v
 hok:HOk X.prog X.w H s.heap
 len:σ.length=X.N.length
section
variable{X:Cx}{pins:List (Addr×Obj)}{σ:List (Option V)}{H H':Hp}{s:Shared}{h':Heap}
theorem Cx.Ok.nofr(ok:X.Ok){b:Addr}{o:Obj}(e:X.base.get? b=some o):b∉X.fs:=fun hb=>by
 have:=(ok.funs.mem hb).1
 rw[e] at this;cases this
theorem Inv.bs(I:Inv X pins σ H s):∀b o,X.base.get? b=some o->s.heap.get? b=some o/\H b=none:=fun b o e =>
 ⟨I.base.keep b o (I.ok.bs b o e).1 (I.ok.bs b o e).2 (I.ok.nofr e) (I.ok.noex b o e),I.base.free b o (I.ok.bs b o e).1 (I.ok.bs b o e).2 (I.ok.noex b o e)⟩
theorem Inv.bk(I:Inv X pins σ H s):∀b o,X.base.get? b=some o->s.heap.get? b=some o:=fun b o e=>(I.bs b o e).1
theorem Inv.mod(I:Inv X pins σ H s):Mod X.K X.mg X.base:=I.ok.mod
theorem Inv.kIn(I:Inv X pins σ H s):X.K.In s.heap:=I.ok.mod.kin.keeps I.bk
theorem Inv.fr(I:Inv X pins σ H s):∃m,Fr X.base X.env.locals s.heap m :=
 let ⟨m,hn,_⟩:=I.loc
 ⟨m,hn,I.bk,Nat.le_trans I.ok.bsz I.ok.above⟩
theorem Inv.lt(I:Inv X pins σ H s):X.env.locals<s.heap.objs.size:=let ⟨_,hn,_⟩:=I.loc;hn.lt
theorem Inv.sz(I:Inv X pins σ H s):X.s₀.heap.objs.size<=s.heap.objs.size:=Nat.le_trans I.ok.above (Nat.le_of_lt I.lt)
theorem Inv.nofs(I:Inv X pins σ H s){a:Addr}(h:s.heap.objs.size<=a):a∉X.fs:=fun hb=>by
 obtain⟨_,o,ho,_⟩:=I.ok.funs.mem hb
 exact absurd (Nat.lt_of_lt_of_le (Heap.lt_size ho) (Nat.le_trans I.sz h)) (Nat.lt_irrefl _)
theorem Inv.cne(I:Inv X pins σ H s):∀x c,X.env.cells.lookup x=some c->c≠X.env.locals:=fun x c e z=>by
 obtain⟨v,o,ho,hd⟩:=I.cell x c e
 obtain⟨m,⟨o',es,ep,ho',hd',_⟩,_⟩:=I.loc
 rw[z,ho'] at ho;cases ho;rw[hd'] at hd;cases hd
theorem Inv.funs(I:Inv X pins σ H s):s.heap.FunFrames X.base X.outer:=by
 have all:∀(l:List Env),(∀b∈frs l,b∈X.fs)->X.s₀.heap.FunFrames X.base l->s.heap.FunFrames X.base l:=by
  intro l
  induction l with
  | nil=>intro _ _;trivial
  | cons env r ih =>
   intro hs hl
   obtain⟨hk,⟨L,o,hf,hn,ho,hd⟩,hr⟩:=hl
   have hL:L∈X.fs:=hs L (by unfold frs;rw[List.filterMap_cons,hf];exact List.mem_cons_self)
   obtain⟨sl,e⟩:=I.base.slot L o ho (I.ok.frf L hL) hL fun z=>I.ok.exfs L z hL
   exact⟨hk,⟨L,_,hf,hn,e,hd⟩,ih (fun b hb=>hs b (by unfold frs;rw[List.filterMap_cons,hf];exact List.mem_cons_of_mem _ hb)) hr⟩
 exact all X.outer (fun _ hb=>hb) I.ok.funs
theorem Inv.stack(I:Inv X pins σ H s):s.heap.FunFrames X.base X.stack:=by
 rcases I.ok.stk with e | ⟨e,hf⟩
 ·rw[e];exact I.funs
 ·rw[e]
  obtain⟨m,hn,_⟩:=I.loc
  refine .cons (by rw[I.ok.kind];decide) hf hn ?_ I.funs
  exact Heap.get?_none_of_le (Nat.le_trans I.ok.bsz I.ok.above)
theorem Inv.stkSub(I:Inv X pins σ H s):∀b∈frs X.stack,b∈X.env.locals::X.fs:=fun b hb=>by
 rcases I.ok.stk with e | ⟨e,hf⟩
 ·rw[e] at hb;exact List.mem_cons_of_mem _ hb
 ·rw[e] at hb
  unfold frs at hb
  rw[List.filterMap_cons,hf] at hb
  exact hb
theorem Inv.stkFree(I:Inv X pins σ H s):∀b∈frs X.stack,H b=none:=fun b hb=>by
 rcases List.mem_cons.mp (I.stkSub b hb) with e | hb
 ·rw[e];exact I.free
 ·obtain⟨_,o,ho,_⟩:=I.ok.funs.mem hb
  exact I.base.free b o ho (I.ok.frf b hb) fun z=>I.ok.exfs b z hb
theorem Inv.step{g':Array GenState}{t':Nat}{d':Drawn}{ch:List Addr}(I:Inv X pins σ H s)
  (hch:∀b∈ch,(b∈X.ex\/X.s₀.heap.objs.size<=b)/\b≠X.env.locals/\(∀x c,X.env.cells.lookup x=some c->c≠b)/\∀p∈X.pn++pins,p.1≠b)
  (keep:∀b o,b≠X.env.locals->b∉X.fs->b∉ch->s.heap.get? b=some o->H b=none->h'.get? b=some o)
  (slot:∀b o,b≠X.env.locals->b∈X.fs->b∉ch->s.heap.get? b=some o->H b=none->∃sl,h'.get? b=some {o with slots:=sl}) (free:∀b o,b∉ch->s.heap.get? b=some o->H b=none->H' b=none)
  (there:∀b o,b∉ch->s.heap.get? b=some o->∃o',h'.get? b=some o')
  (tups:∀b xs,H b=some (.tup xs)->H' b=some (.tup xs)) (frzs:∀b o u,H b=some (.frz o u)->H' b=some (.frz o u)) (tbls:∀b ps,H b=some (.tbl ps)->∃more,H' b=some (.tbl (ps++more)))
  (ns:∀m,s.heap.Ns X.env.locals m->h'.Ns X.env.locals m) (hok:HOk X.prog X.w H' h') (hg:AllBare g') :
  Inv X pins σ H' {s with heap:=h',gens:=g',drawn:=d',toks:=t'}:=by
 have neL:∀b o,X.s₀.heap.get? b=some o->b≠X.env.locals:=fun b o e=>Nat.ne_of_lt (Nat.lt_of_lt_of_le (Heap.lt_size e) I.ok.above)
 have neC:∀b o,X.s₀.heap.get? b=some o->b∉X.ex->b∉ch:=fun b o e hx hb=>by
  rcases(hch b hb).1 with z | z
  ·exact hx z
  ·exact absurd (Nat.lt_of_lt_of_le (Heap.lt_size e) z) (Nat.lt_irrefl _)
 have cellK:∀x c,X.env.cells.lookup x=some c->∀v,s.heap.IsCell c v->h'.IsCell c v:=fun x c e v ⟨o,ho,hd⟩=>by
  have nch:c∉ch:=fun z=>(hch c z).2.2.1 x c e rfl
  by_cases hc:c∈X.fs
  ·obtain⟨sl,q⟩:=slot c o (I.cne x c e) hc nch ho (I.freeC x c e)
   exact⟨_,q,hd⟩
  ·exact⟨o,keep c o (I.cne x c e) hc nch ho (I.freeC x c e),hd⟩
 refine⟨I.ok,I.os,hg,⟨fun b o e n hb hx=>?_,fun b o e n hb hx=>?_,fun b o e n hx=>?_,fun b o e hx=>?_,fun b xs e=>tups b xs (I.base.tups b xs e),fun b o xs e=>frzs b o xs (I.base.frzs b o xs e),fun b ps e=>?_⟩,?_,fun x c e=>?_,?_,fun x c e=>?_,fun p hp=>?_,hok,I.len⟩
 ·exact keep b o (neL b o e) hb (neC b o e hx) (I.base.keep b o e n hb hx) (I.base.free b o e n hx)
 ·obtain⟨sl,e1⟩:=I.base.slot b o e n hb hx
  obtain⟨sl',e2⟩:=slot b _ (neL b o e) hb (neC b o e hx) e1 (I.base.free b o e n hx)
  exact⟨sl',e2⟩
 ·obtain⟨o',e1⟩:=I.base.there b o e hx
  exact free b o' (neC b o e hx) e1 (I.base.free b o e n hx)
 ·obtain⟨o',e1⟩:=I.base.there b o e hx
  exact there b o' (neC b o e hx) e1
 ·obtain⟨m1,e1⟩:=I.base.tbls b ps e
  obtain⟨m2,e2⟩:=tbls b _ e1
  exact⟨m1++m2,by rw[e2,Array.append_assoc]⟩
 ·obtain⟨m,hn,hl⟩:=I.loc
  refine⟨m,ns m hn,fun i x v e1 e2 e3=>?_⟩
  obtain⟨u,r,l⟩:=hl i x v e1 e2 e3
  refine⟨u,r,?_⟩
  rcases l with l | ⟨k,c,e,z⟩
  ·exact .inl l
  ·exact .inr ⟨k,c,e,cellK x c e _ z⟩
 ·obtain⟨v,z⟩:=I.cell x c e
  exact⟨v,cellK x c e v z⟩
 ·obtain⟨m,⟨o,_,_,ho,_⟩,_⟩:=I.loc
  exact free _ o (fun z=>(hch _ z).2.1 rfl) ho I.free
 ·obtain⟨v,o,ho,hd⟩:=I.cell x c e
  exact free c o (fun z=>(hch c z).2.2.1 x c e rfl) ho (I.freeC x c e)
 ·obtain⟨e,n,ne,nf,d⟩:=I.pin p hp
  have nch:p.1∉ch:=fun z=>(hch p.1 z).2.2.2 p hp rfl
  exact⟨keep p.1 p.2 ne nf nch e n,free p.1 p.2 nch e n,ne,nf,d⟩
theorem Inv.un{t':Nat}(I:Inv X pins σ H s)(u:Un X.fs [] H H' s.heap h')(hok:HOk X.prog X.w H' h'):Inv X pins σ H' {s with heap:=h',toks:=t'}:=by
 obtain⟨m,⟨o,es,ep,ho,r⟩,_⟩:=id I.loc
 obtain⟨sl,hL⟩:=u.any ho I.free (by simp)
 exact I.step (g':=s.gens) (d':=s.drawn) (ch:=[]) (fun _ z=>nomatch z) (fun b o _ hb _ e n=>u.keep b o e n hb (by simp)) (fun b o _ hb _ e n=>u.slot b o e n hb (by simp)) (fun b o _ e n=>u.free b o e n (by simp)) (fun b o _ e=>u.there b o e (by simp)) u.tups u.frzs u.tbls (fun m' hm=>by
  obtain⟨o',es',ep',ho',r'⟩:=hm
  rw[ho] at ho';cases ho'
  exact⟨_,es',ep',hL,r'⟩) hok I.bare
theorem Inv.call{g':Array GenState}{t':Nat}{d':Drawn}{ch:List Addr}(I:Inv X pins σ H s)(u:Un (frs X.stack) ch H H' s.heap h')(hok:HOk X.prog X.w H' h')(hg:AllBare g')
  (hch:∀b∈ch,(b∈X.ex\/X.s₀.heap.objs.size<=b)/\b≠X.env.locals/\(∀x c,X.env.cells.lookup x=some c->c≠b)/\∀p∈X.pn++pins,p.1≠b) :
  Inv X pins σ H' {s with heap:=h',gens:=g',drawn:=d',toks:=t'}:=by
 obtain⟨m,⟨o,es,ep,ho,r⟩,_⟩:=id I.loc
 obtain⟨sl,hL⟩:=u.any ho I.free fun z=>(hch _ z).2.1 rfl
 exact I.step (ch:=ch) hch (fun b o hL hb hc e n=>u.keep b o e n (fun z=>(List.mem_cons.mp (I.stkSub b z)).elim hL hb) hc) (fun b o _ _ hc e n=>u.any e n hc) (fun b o hc e n=>u.free b o e n hc) (fun b o hc e=>u.there b o e hc) u.tups u.frzs u.tbls (fun m' hm=>by
  obtain⟨o',es',ep',ho',r'⟩:=hm
  rw[ho] at ho';cases ho'
  exact⟨_,es',ep',hL,r'⟩) hok hg
theorem Inv.turned{t':Nat}{it:Addr}(I:Inv X pins σ H s)(k:∀b o,b≠it->s.heap.get? b=some o->h'.get? b=some o)(hn:H it=none)(hL:it≠X.env.locals)
  (h1:it∈X.ex\/X.s₀.heap.objs.size<=it) (h2:∀x c,X.env.cells.lookup x=some c->c≠it) (h3:∀p∈X.pn++pins,p.1≠it):Inv X pins σ H {s with heap:=h',toks:=t'}:=by
 have nit:∀b u,H b=some u->b≠it:=fun b u e z=>by rw[z,hn] at e;cases e
 refine I.step (g':=s.gens) (d':=s.drawn) (ch:=[it]) (fun b hb=>?_) (fun b o _ _ hc e _=>k b o (fun z=>hc (by simp[z])) e) (fun b o _ _ hc e _=>⟨o.slots,k b o (fun z=>hc (by simp[z])) e⟩) (fun _ _ _ _ n=>n)
  (fun b o hc e=>⟨o,k b o (fun z=>hc (by simp[z])) e⟩) (fun _ _ e=>e) (fun _ _ _ e=>e) (fun b ps e=>⟨#[],by rw[e];simp⟩) (fun m hm=>?_) (fun b u e=>?_) I.bare
 ·have e:b=it:=by simpa using hb
  subst e
  exact⟨h1,hL,h2,h3⟩
 ·obtain⟨o,es,ep,ho,r⟩:=hm
  exact⟨o,es,ep,k _ o (Ne.symm hL) ho,r⟩
 ·refine(I.hok b u e).stay (fun c v hc q=>k c v ?_ q) (fun _ q=>q) fun _ _ q=>q
  rcases hc with z | z
  ·rw[z];exact nit b u e
  ·exact nit c _ z
theorem Inv.tok(I:Inv X pins σ H s)(t:Nat):Inv X pins σ H {s with toks:=t}:=I.un (h':=s.heap) (t':=t) Un.refl I.hok
theorem Inv.kept{t':Nat}(I:Inv X pins σ H s)(k:∀b u,s.heap.get? b=some u->h'.get? b=some u):Inv X pins σ H {s with heap:=h',toks:=t'}:=I.un (Un.kept k) (I.hok.kept k)
theorem Inv.laid{a:Addr}{o:HO}{t':Nat}(I:Inv X pins σ H s)(k:∀b u,s.heap.get? b=some u->h'.get? b=some u)(hp:s.heap.objs.size<=a)(new:ObjOk X.prog X.w (upd H a o) h' a o) :
  Inv X pins σ (upd H a o) {s with heap:=h',toks:=t'}:=I.un (Un.laid k hp (I.hok.fresh hp)) (I.hok.laid k hp new)
theorem Inv.write{x e:Addr}{o:HO}{t':Nat}(I:Inv X pins σ H s)(mu:Mut (H x))(he:e=x\/H e=some (.own x))(k:∀b u,b≠e->s.heap.get? b=some u->h'.get? b=some u)(heo:∃u,h'.get? e=some u)
  (new:ObjOk X.prog X.w (upd H x o) h' x o):Inv X pins σ (upd H x o) {s with heap:=h',toks:=t'}:=I.un (Un.write mu he k heo) (I.hok.write mu he k heo new)
theorem Inv.weak{σ':List (Option V)}(I:Inv X pins σ H s)(hl:σ'.length=σ.length)(w:∀(i:Nat) v,σ'[i]?=some (some v)->σ[i]?=some (some v)):Inv X pins σ' H s :=
 ⟨I.ok,I.os,I.bare,I.base,let ⟨m,hn,hl'⟩:=I.loc;⟨m,hn,fun i x v e1 e2 e3=>hl' i x v e1 (w i v e2) e3⟩,I.cell,I.free,I.freeC,I.pin,I.hok,hl.trans I.len⟩
theorem Inv.pins_of{pins':List (Addr×Obj)}(I:Inv X pins σ H s)(h:∀p∈pins',s.heap.get? p.1=some p.2/\H p.1=none/\p.1≠X.env.locals/\p.1∉X.fs/\∀v,p.2.data≠.cell v):Inv X pins' σ H s :=
 ⟨I.ok,I.os,I.bare,I.base,I.loc,I.cell,I.free,I.freeC,fun p hp=>(List.mem_append.mp hp).elim (fun z=>I.pin p (List.mem_append_left _ z)) (h p),I.hok,I.len⟩
theorem ff_{N:List Str}(hN:N.Nodup){i j:Nat}{x:Str}(a:N[i]?=some x)(b:N[j]?=some x):i=j:=by
 obtain⟨h1,e1⟩:=List.getElem?_eq_some_iff.mp a
 obtain⟨h2,e2⟩:=List.getElem?_eq_some_iff.mp b
 exact(List.getElem_inj hN).mp (e1.trans e2.symm)
theorem fB_{M:Model}{A:Around}{E:Value->Shared->Prop}{i:Nat}{x:Str}{v:V}{u:Value}{Q:Unit->Shared->Prop}(I:Inv X pins σ H s)(hN:X.N.Nodup)(hi:X.N[i]?=some x)(hx:Loc X.env.scope x)(r:RelV v u)
  (h:∀s',Inv X pins (σ.set i (some v)) H s'->(∃a,Heap.SameBut a s.heap s'.heap/\(a=X.env.locals\/X.env.cells.lookup x=some a))->Q () s') (hf:X.fn x=true\/X.env.scope.names.lookup x=some .local:=by first | exact .inl rfl | exact .inr rfl | assumption):wpAny M A (storeName X.env x u) Q E s:=by
 obtain⟨m,hn,hl⟩:=id I.loc
 have hcls:(X.env.scope.kind==.class || (X.env.scope.kind==.module&&X.env.locals != X.env.globals))=false:=by rw[I.ok.kind];rfl
 have hiσ:i<σ.length:=by rw[I.len];exact(List.getElem?_eq_some_iff.mp hi).1
 have cne:=I.cne
 have tracked:∀ {a:Addr} {h':Heap},(∃o,s.heap.get? a=some o/\H a=none)->Heap.SameBut a s.heap h'->HOk X.prog X.w H h':=fun {a h'} ha hs b ob e=>by
  obtain⟨_,_,hfree⟩:=ha
  refine(I.hok b ob e).stay (fun c w' hc q=>(hs.2 c ?_).trans q) (fun _ q=>q) fun _ _ q=>q
  rintro rfl
  rcases hc with rfl | hc
  ·rw[hfree] at e;cases e
  ·rw[hfree] at hc;cases hc
 rcases hx with hk | hk
 ·refine wpAny_storeName_local hk hn (fun h' hn' hs=>?_) hcls
  obtain⟨oL,_,_,hoL,_⟩:=id hn
  refine h _ ⟨I.ok,I.os,I.bare,⟨fun b o e n hb hx=>?_,fun b o e n hb hx=>?_,I.base.free,fun b o e hx=>?_,I.base.tups,I.base.frzs,I.base.tbls⟩,⟨_,hn',fun j y v' e1 e2 e3=>?_⟩,fun y c e=>?_,I.free,I.freeC,fun p hp=>?_,tracked ⟨oL,hoL,I.free⟩ hs,by simpa using I.len⟩ ⟨_,hs,.inl rfl⟩
  ·exact(hs.2 b (Nat.ne_of_lt (Nat.lt_of_lt_of_le (Heap.lt_size e) I.ok.above))).trans (I.base.keep b o e n hb hx)
  ·obtain⟨sl,e1⟩:=I.base.slot b o e n hb hx
   exact⟨sl,(hs.2 b (Nat.ne_of_lt (Nat.lt_of_lt_of_le (Heap.lt_size e) I.ok.above))).trans e1⟩
  ·obtain⟨o',e1⟩:=I.base.there b o e hx
   exact⟨o',(hs.2 b (Nat.ne_of_lt (Nat.lt_of_lt_of_le (Heap.lt_size e) I.ok.above))).trans e1⟩
  ·by_cases hj:j=i
   ·subst hj
    rw[hi] at e1;cases e1
    rw[List.getElem?_set_self hiσ] at e2
    cases e2
    exact⟨u,r,.inl ⟨hk,by simp⟩⟩
   ·rw[List.getElem?_set_ne (Ne.symm hj)] at e2
    obtain⟨u',r',q⟩:=hl j y v' e1 e2 e3
    refine⟨u',r',?_⟩
    rcases q with⟨k,e⟩ | ⟨k,c,e,z⟩
    ·refine .inl ⟨k,?_⟩
     have:y≠x:=fun e=>hj (ff_ hN e1 (e▸hi))
     simp[this,e]
    ·exact .inr ⟨k,c,e,z.sameBut hs (cne y c e)⟩
  ·obtain⟨w',z⟩:=I.cell y c e
   exact⟨w',z.sameBut hs (cne y c e)⟩
  ·obtain⟨e,n,ne,nf,d⟩:=I.pin p hp
   exact⟨(hs.2 p.1 ne).trans e,n,ne,nf,d⟩
 ·have hfn:X.fn x=true:=by
   rcases hf with z | z
   ·exact z
   ·rw[z] at hk;cases hk
  obtain⟨c,hc⟩:=I.ok.has x (.inl hk)
  obtain⟨w',z⟩:=I.cell x c hc
  refine wpAny_storeName_cell I.ok.kind hk hc z (fun h' hc' hs=>?_)
  obtain⟨oc,hoc,hocd⟩:=id z
  refine h {s with heap:=h'} ⟨I.ok,I.os,I.bare,⟨fun b o e n hb hx=>?_,fun b o e n hb hx=>?_,I.base.free,fun b o e hx=>?_,I.base.tups,I.base.frzs,I.base.tbls⟩,⟨m,hn.sameBut hs (Ne.symm (cne x c hc)),fun j y v' e1 e2 e3=>?_⟩,fun y c' e=>?_,I.free,I.freeC,fun p hp=>?_,tracked ⟨oc,hoc,I.freeC x c hc⟩ hs,by simpa using I.len⟩ ⟨c,hs,.inr hc⟩
  ·exact(hs.2 b (Nat.ne_of_lt (Nat.lt_of_lt_of_le (Heap.lt_size e) (I.ok.cab x c hfn hc)))).trans (I.base.keep b o e n hb hx)
  ·obtain⟨sl,e1⟩:=I.base.slot b o e n hb hx
   exact⟨sl,(hs.2 b (Nat.ne_of_lt (Nat.lt_of_lt_of_le (Heap.lt_size e) (I.ok.cab x c hfn hc)))).trans e1⟩
  ·obtain⟨o',e1⟩:=I.base.there b o e hx
   exact⟨o',(hs.2 b (Nat.ne_of_lt (Nat.lt_of_lt_of_le (Heap.lt_size e) (I.ok.cab x c hfn hc)))).trans e1⟩
  ·by_cases hj:j=i
   ·subst hj
    rw[hi] at e1;cases e1
    rw[List.getElem?_set_self hiσ] at e2
    cases e2
    exact⟨u,r,.inr ⟨.inl hk,c,hc,hc'⟩⟩
   ·rw[List.getElem?_set_ne (Ne.symm hj)] at e2
    obtain⟨u',r',q⟩:=hl j y v' e1 e2 e3
    refine⟨u',r',?_⟩
    rcases q with q | ⟨k,c',e,z'⟩
    ·exact .inl q
    ·refine .inr ⟨k,c',e,z'.sameBut hs ?_⟩
     rintro rfl
     exact hj (ff_ hN e1 (I.ok.inj _ _ _ e hc▸hi))
  ·by_cases hcc:c'=c
   ·subst hcc;exact⟨_,hc'⟩
   ·obtain⟨w2,z2⟩:=I.cell y c' e
    exact⟨w2,z2.sameBut hs hcc⟩
  ·obtain⟨e,n,ne,nf,d⟩:=I.pin p hp
   refine⟨(hs.2 p.1 ?_).trans e,n,ne,nf,d⟩
   intro q
   rw[q,hoc] at e
   have q':oc=p.2:=Option.some.inj e
   exact d w' (by rw[<-q'];exact hocd)
theorem aR_{M:Model}{A:Around}{E:Value->Shared->Prop}{i:Nat}{x:Str}{v:V}{u:Value}{Q:Unit->Shared->Prop}(I:Inv X pins σ H s)(hN:X.N.Nodup)(hi:X.N[i]?=some x)(hx:Loc X.env.scope x)(r:RelV v u)
  (h:∀s',Inv X pins (σ.set i (some v)) H s'->Q () s') (hf:X.fn x=true\/X.env.scope.names.lookup x=some .local:=by first | exact .inl rfl | exact .inr rfl | assumption):wpAny M A (storeName X.env x u) Q E s :=
 fB_ I hN hi hx r (fun s' I' _=>h s' I') hf
theorem Inv.call'{s':Shared}{ch:List Addr}(I:Inv X pins σ H s)(ho:s'.os=s.os)(u:Un (frs X.stack) ch H H' s.heap s'.heap)(hok:HOk X.prog X.w H' s'.heap)(hg:AllBare s'.gens)
  (hch:∀b∈ch,(b∈X.ex\/X.s₀.heap.objs.size<=b)/\b≠X.env.locals/\(∀x c,X.env.cells.lookup x=some c->c≠b)/\∀p∈X.pn++pins,p.1≠b):Inv X pins σ H' s':=by
 obtain⟨h',g',d',t',o'⟩:=s'
 have e:o'=s.os:=ho
 subst e
 exact I.call (g':=g') (t':=t') (d':=d') u hok hg hch
end
abbrev XK:=Value->Option Addr->Hp->Prop
abbrev St:=List (Option V)
abbrev VK:=V->Hp->Prop
abbrev TE:=St->Hp->VK->Prop
abbrev TT:=St->Hp->(Bool->Hp->Prop)->Prop
abbrev TA:=St->Hp->(List V->Hp->Prop)->Prop
structure Ends where
 nx:St->Hp->Prop
 rt:VK
 bk:St->Hp->Prop:=fun _ _=>False
 ct:St->Hp->Prop:=fun _ _=>False
abbrev TS:=Ends->St->Hp->Prop
def EP(X:Cx)(pins:List (Addr×Obj))(σ:St)(Q:VK)(u:Value)(s':Shared):Prop:=∃v H',Inv X pins σ H' s'/\RelV v u/\Q v H'
def TP(X:Cx)(pins:List (Addr×Obj))(σ:St)(Q:Bool->Hp->Prop)(b:Bool)(s':Shared):Prop:=∃H',Inv X pins σ H' s'/\Q b H'
def AP(X:Cx)(pins:List (Addr×Obj))(σ:St)(Q:List V->Hp->Prop)(us:List Value)(s':Shared):Prop:=∃vs H',Inv X pins σ H' s'/\Vals vs us/\Q vs H'
def SP(X:Cx)(pins:List (Addr×Obj))(D:Ends)(f:Flow)(s':Shared):Prop :=
 match f with
 | .next=>∃ σ' H',Inv X pins σ' H' s'/\D.nx σ' H'
 | .brk=>∃ σ' H',Inv X pins σ' H' s'/\D.bk σ' H'
 | .cont=>∃ σ' H',Inv X pins σ' H' s'/\D.ct σ' H'
 | .ret u=>∃v σ' H',Inv X pins σ' H' s'/\RelV v u/\D.rt v H'
def PE(X:Cx)(e:Expr)(t:TE):Prop :=
 ∀(pins:List (Addr×Obj)) (s:Shared) (σ:St) (H:Hp) (Q:VK),Inv X pins σ H s->t σ H Q->wpAny (model X.prog X.w) X.A (eval e X.env) (EP X pins σ Q) X.xe s
def PT(X:Cx)(e:Expr)(t:TT):Prop :=
 ∀(pins:List (Addr×Obj)) (s:Shared) (σ:St) (H:Hp) (Q:Bool->Hp->Prop),Inv X pins σ H s->t σ H Q->wpAny (model X.prog X.w) X.A (isTrue e X.env (eval e X.env)) (TP X pins σ Q) X.xe s
def PW(X:Cx)(e:Expr)(t:TT):Prop :=
 ∀(whole:Sem Value) (pins:List (Addr×Obj)) (s:Shared) (σ:St) (H:Hp) (Q:Bool->Hp->Prop),Inv X pins σ H s->t σ H Q->wpAny (model X.prog X.w) X.A (isTrue e X.env whole) (TP X pins σ Q) X.xe s
theorem PW.pt{X:Cx}{e:Expr}{t:TT}(h:PW X e t):PT X e t:=h _
def PA(X:Cx)(es:List Expr)(t:TA):Prop :=
 ∀(pos:Pos) (pins:List (Addr×Obj)) (s:Shared) (σ:St) (H:Hp) (Q:List V->Hp->Prop),Inv X pins σ H s->t σ H Q->wpAny (model X.prog X.w) X.A (spliced (backTo pos (starEach es X.env))) (AP X pins σ Q) X.xe s
def PS(X:Cx)(st:Stmt)(t:TS):Prop :=
 ∀(pins:List (Addr×Obj)) (s:Shared) (σ:St) (H:Hp) (D:Ends),Inv X pins σ H s->t D σ H->wpAny (model X.prog X.w) X.A (exec st X.env) (SP X pins D) X.xe s
def PSs(X:Cx)(st:List Stmt)(t:TS):Prop :=
 ∀(pins:List (Addr×Obj)) (s:Shared) (σ:St) (H:Hp) (D:Ends),Inv X pins σ H s->t D σ H->wpAny (model X.prog X.w) X.A (execs st X.env) (SP X pins D) X.xe s
theorem thn{α:Type}{t:Sem α}{Q Q':α->Shared->Prop}{M:Model}{A:Around}{E:Value->Shared->Prop}{s:Shared}(h:wpAny M A t Q E s)(hQ:∀a s,Q a s->Q' a s):wpAny M A t Q' E s:=wpAny_mono h hQ fun _ _ x=>x
section
variable{X:Cx}
theorem bin{a b:Expr}{ta tb:TE}(ha:PE X a ta)(hb:PE X b tb){pins:List (Addr×Obj)}{s:Shared}{σ:St}{H:Hp}{R:V->V->Hp->Prop}(I:Inv X pins σ H s)(h:ta σ H fun x H1=>tb σ H1 fun y H2=>R x y H2)
  {α:Type} {Q:α->Shared->Prop} {f:Value->Value->Sem α}
  (hf:∀v u s2 x y H2,Inv X pins σ H2 s2->RelV x v->RelV y u->R x y H2->wpAny (model X.prog X.w) X.A (f v u) Q X.xe s2) :
  wpAny (model X.prog X.w) X.A (eval a X.env) (fun v s₁=>wpAny (model X.prog X.w) X.A (eval b X.env) (fun u s₂=>wpAny (model X.prog X.w) X.A (f v u) Q X.xe s₂) X.xe s₁) X.xe s:=by
 refine thn (ha pins s σ H _ I h) fun v s1 ⟨x,H1,I1,r1,q1⟩=>?_
 refine thn (hb pins s1 σ H1 _ I1 q1) fun u s2 ⟨y,H2,I2,r2,q2⟩=>?_
 exact hf v u s2 x y H2 I2 r1 r2 q2
def tVar(i:Nat):TE:=fun σ H Q=>∃v,σ[i]?=some (some v)/\Q v H
def tC(v:V):TE:=fun _ H Q=>Q v H
theorem qu_{i:Nat}{x:Str}{pos:Pos}(hN:X.N[i]?=some x)(hv:Vis X.env.scope x)(hd:(x==("__debug__":Str))=false:=by decide)(hcd:(x==("__classdict__":Str))=false:=by decide):PE X (.Name x pos) (tVar i):=by
 intro pins s σ H Q I h
 obtain⟨v,e,h⟩:=h
 obtain⟨m,hn,hl⟩:=I.loc
 obtain⟨u,r,l⟩:=hl i x v hN e hv
 have fin:EP X pins σ Q u s:=⟨v,H,I,r,h⟩
 rcases l with⟨hk,hm⟩ | ⟨hk,c,hc,hcell⟩
 ·exact wpAny_Name (wpAny_loadName_local I.ok.kind hk hn hm fin) hd
 ·rcases hk with hk | hk
  ·exact wpAny_Name (wpAny_loadName_cell I.ok.kind hk hc hcell fin) hd
  ·exact wpAny_Name (wpAny_loadName_free I.ok.kind hk hc hcell fin hcd) hd
theorem e_{i j pos}:PE X (.Constant (.int i) j pos) (tC (.int i)):=fun _ _ _ H _ I h=>wpAny_Constant_int ⟨.int i,H,I.tok _,⟨_,rfl⟩,h⟩
theorem cH_{b j pos}:PE X (.Constant (.bool b) j pos) (tC (.bl b)):=fun _ _ _ H _ I h=>Constant_bool ⟨.bl b,H,I,rfl,h⟩
theorem bs_{j pos}:PE X (.Constant .none j pos) (tC .non):=fun _ _ _ H _ I h=>Constant_none ⟨.non,H,I,rfl,h⟩
theorem N_{x j pos}:PE X (.Constant (.str x) j pos) (tC (.str x)):=fun _ _ _ H _ I h=>Calls.Constant_str ⟨.str x,H,I.tok _,⟨_,rfl⟩,h⟩
def Gl(X:Cx)(x:Str):Prop:=X.env.kindOf x=some .globalImplicit
theorem dJ_{E:Value->Shared->Prop}{pins:List (Addr×Obj)}{s:Shared}{σ:St}{H:Hp}{x:Str}{u:Value}{pos:Pos}{Q:Value->Shared->Prop}(I:Inv X pins σ H s)(hg:Gl X x)(hm:X.mg x=some u)(h:Q u s)
  (hd:(x==("__debug__":Str))=false:=by decide):wpAny (model X.prog X.w) X.A (eval (.Name x pos) X.env) Q E s :=
 Calls.Name_function_global I.ok.kind hg (Calls.loadGlobal_global (by rw[I.ok.glob];exact I.mod.glob.keeps I.bk) hm h) hd
theorem bJ_{E:Value->Shared->Prop}{pins:List (Addr×Obj)}{s:Shared}{σ:St}{H:Hp}{x:Str}{u:Value}{pos:Pos}{Q:Value->Shared->Prop}(I:Inv X pins σ H s)(hg:Gl X x)(hm:X.mg x=none)(hv:bootBuiltins x=some u)(h:Q u s)
  (hn:x≠"__name__":=by decide) (hd:(x==("__debug__":Str))=false:=by decide):wpAny (model X.prog X.w) X.A (eval (.Name x pos) X.env) Q E s:=by
 obtain⟨mb,h1,h2⟩:=I.mod.blt
 exact Calls.Name_function_global I.ok.kind hg (Calls.loadGlobal_builtin (by rw[I.ok.glob];exact I.mod.glob.keeps I.bk) hm (by rw[I.ok.blt];exact h1.keeps I.bk) ((h2 x hn).trans hv) h) hd
theorem pe_{x:Str}{v:V}{u:Value}{pos:Pos}(hg:Gl X x)(hm:X.mg x=some u)(r:RelV v u)(hd:(x==("__debug__":Str))=false:=by decide):PE X (.Name x pos) (tC v) :=
 fun _ _ _ H _ I h=>dJ_ I hg hm ⟨v,H,I,r,h⟩ hd
theorem pg_{x:Str}{v:V}{u:Value}{pos:Pos}(hg:Gl X x)(hm:X.mg x=none)(hv:bootBuiltins x=some u)(r:RelV v u)(hn:x≠"__name__":=by decide)(hd:(x==("__debug__":Str))=false:=by decide):PE X (.Name x pos) (tC v) :=
 fun _ _ _ H _ I h=>bJ_ I hg hm hv ⟨v,H,I,r,h⟩ hn hd
def t2I(ta tb:TE)(k:Int->Int->Hp->Prop):St->Hp->Prop:=fun σ H=>ta σ H fun x H1=>tb σ H1 fun y H2=>∃i j,x=.int i/\y=.int j/\k i j H2
variable{a b:Expr}{ta tb:TE}{pos:Pos}
def PC(X:Cx)(op:CmpOp)(a b:Expr)(t:TE):Prop :=
 ∀(pins:List (Addr×Obj)) (s:Shared) (σ:St) (H:Hp) (Q:VK),Inv X pins σ H s->t σ H Q->
  wpAny (model X.prog X.w) X.A (eval a X.env) (fun v s₁=>wpAny (model X.prog X.w) X.A (eval b X.env) (fun u s₂=>wpAny (model X.prog X.w) X.A (compareOp op v u) (EP X pins σ Q) X.xe s₂) X.xe s₁) X.xe s
def tCmp(p:Int->Int->Bool)(ta tb:TE):TE:=fun σ H Q=>t2I ta tb (fun i j H2=>Q (.bl (p i j)) H2) σ H
abbrev tLt:TE->TE->TE:=tCmp fun i j=>decide (i<j)
abbrev tLe:TE->TE->TE:=tCmp fun i j=>decide (i<=j)
abbrev tGt:TE->TE->TE:=tCmp fun i j=>decide (j<i)
abbrev tGe:TE->TE->TE:=tCmp fun i j=>decide (j<=i)
abbrev tEqI:TE->TE->TE:=tCmp fun i j=>decide (i=j)
abbrev tNeI:TE->TE->TE:=tCmp fun i j=>!decide (i=j)
def tB(t:TE):TT:=fun σ H Q=>t σ H fun x H1=>∃c,x=.bl c/\Q c H1
theorem pt_cmp{op:CmpOp}{t:TE}(h:PC X op a b t)(h1:behindInMarks op b=false:=by first | exact nobehind _ (by decide) (by decide) | rfl):PT X (.Compare a [op] [b] pos) (tB t):=by
 intro pins s σ H Q I hw
 refine wpAny_isTrue_Compare1 (thn (h pins s σ H _ I hw) fun v s1 h1=>thn h1 fun u s2 h2=>thn h2 fun c s3 ⟨x,H1,I1,r1,q1⟩=>?_) h1
 obtain⟨d,rfl,q⟩:=q1
 cases r1
 exact wpAny_truthy_bool ⟨H1,I1,q⟩
theorem ag_{e:Expr}{t:TE}(h:PE X e t)(he:∀whole,isTrue e X.env whole=(do let v <-whole;standAt e.pos;holding [v] (truthy v)):=by intro _;rfl):PT X e (tB t):=by
 intro pins s σ H Q I hw
 refine isTrue_plain (thn (h pins s σ H _ I hw) fun v s1 ⟨x,H1,I1,r1,q1⟩=>?_) (he _)
 obtain⟨d,rfl,q⟩:=q1
 cases r1
 exact wpAny_truthy_bool ⟨H1,I1,q⟩
variable{tA tB':TT}{rest:List Expr}
def tAnd(t u:TT):TT:=fun σ H Q=>t σ H fun c H1=>if c=true then u σ H1 Q else Q false H1
def tOr(t u:TT):TT:=fun σ H Q=>t σ H fun c H1=>if c=true then Q true H1 else u σ H1 Q
def tNot(t:TT):TT:=fun σ H Q=>t σ H fun c H1=>Q (!c) H1
theorem eS_(ha:PT X a tA):PW X (.BoolOp .And [a] pos) tA:=by
 intro wh pins s σ H Q I h
 refine isTrue_and (thn (ha pins s σ H Q I h) fun c s1 e=>?_)
 cases c with
 | true=>exact isTrue_and_nil e
 | false=>exact e
theorem cR_(ha:PT X a tA):PW X (.BoolOp .Or [a] pos) tA:=by
 intro wh pins s σ H Q I h
 refine isTrue_or (thn (ha pins s σ H Q I h) fun c s1 e=>?_)
 cases c with
 | false=>exact isTrue_or_nil e
 | true=>exact e
theorem iu_(ha:PT X a tA)(hb:PW X (.BoolOp .And (b::rest) pos) tB'):PW X (.BoolOp .And (a::b::rest) pos) (tAnd tA tB'):=by
 intro wh pins s σ H Q I h
 refine isTrue_and (thn (ha pins s σ H _ I h) fun c s1 ⟨H1,I1,q1⟩=>?_)
 cases c with
 | true=>exact hb wh pins s1 σ H1 Q I1 q1
 | false=>exact⟨H1,I1,q1⟩
theorem eR_(ha:PT X a tA)(hb:PW X (.BoolOp .Or (b::rest) pos) tB'):PW X (.BoolOp .Or (a::b::rest) pos) (tOr tA tB'):=by
 intro wh pins s σ H Q I h
 refine isTrue_or (thn (ha pins s σ H _ I h) fun c s1 ⟨H1,I1,q1⟩=>?_)
 cases c with
 | true=>exact⟨H1,I1,q1⟩
 | false=>exact hb wh pins s1 σ H1 Q I1 q1
theorem al_(ha:PT X a tA):PT X (.UnaryOp .Not a pos) (tNot tA):=by
 intro pins s σ H Q I h
 exact isTrue_not (ha pins s σ H (fun c H1=>Q (!c) H1) I h)
def tAndV(ta tb:TE):TE:=fun σ H Q=>ta σ H fun x H1=>∃c,x=.bl c/\if c=true then tb σ H1 Q else Q (.bl false) H1
def tNotV(ta:TE):TE:=fun σ H Q=>ta σ H fun x H1=>∃c,x=.bl c/\Q (.bl (!c)) H1
theorem cT_{op}{t:TE}(h:PE X a t):PE X (.BoolOp op [a] pos) t:=fun pins s σ H Q I hw=>BoolOp_one (h pins s σ H Q I hw)
theorem cl_(ha:PE X a ta)(hb:PE X (.BoolOp .And (b::rest) pos) tb):PE X (.BoolOp .And (a::b::rest) pos) (tAndV ta tb):=by
 intro pins s σ H Q I h
 refine BoolOp_and (thn (ha pins s σ H _ I h) fun v s1 ⟨x,H1,I1,r1,q1⟩=>?_)
 obtain⟨c,rfl,q1⟩:=q1
 cases r1
 refine wpAny_truthy_bool ?_
 cases c with
 | true=>exact hb pins s1 σ H1 Q I1 q1
 | false=>exact⟨.bl false,H1,I1,rfl,q1⟩
theorem nY_(ha:PE X a ta):PE X (.UnaryOp .Not a pos) (tNotV ta):=by
 intro pins s σ H Q I h
 refine UnaryOp_ (thn (ha pins s σ H _ I h) fun v s1 ⟨x,H1,I1,r1,q1⟩=>?_)
 obtain⟨c,rfl,q1⟩:=q1
 cases r1
 exact not_of (wpAny_truthy_bool ⟨.bl (!c),H1,I1,rfl,q1⟩)
end
def SqL(K:PySem.W.Frag)(H:Hp)(a:Addr)(xs:List V):Prop :=
 Rd H a (.lst xs)\/
  ∃(o:Obj) (its:Array Value) (n:Nat),K.lookup a=some o/\o.cls=.type "list"/\o.dict=none/\o.data=.seq its n/\its.size<=sizeLine/\Vals xs its.toList
def SqT(K:PySem.W.Frag)(H:Hp)(a:Addr)(xs:List V):Prop :=
 Rd H a (.tup xs)\/
  ∃(o:Obj) (its:Array Value) (n:Nat),K.lookup a=some o/\o.cls=.type "tuple"/\o.data=.seq its n/\its.size<=sizeLine/\Vals xs its.toList
def absV:Value->Option V
 | .none=>some .non
 | .bool b=>some (.bl b)
 | .int i _=>some (.int i)
 | .str x _=>some (.str x)
 | .bytes b _=>some (.byt b)
 | .float b _=>some (.flt b)
 | .ref a=>some (.ref a)
 | .type n=>some (.ty n)
 | _=>none
theorem RelV.abs{x:V}{u:Value}(r:RelV x u):absV u=some x:=by
 cases x with
 | non=>cases r;rfl
 | bl _=>cases r;rfl
 | int _=>obtain⟨t,rfl⟩:=r;rfl
 | str _=>obtain⟨t,rfl⟩:=r;rfl
 | byt _=>obtain⟨t,rfl⟩:=r;rfl
 | flt _=>obtain⟨t,rfl⟩:=r;rfl
 | ref _=>cases r;rfl
 | ty _=>cases r;rfl
theorem RelV.inj{x y:V}{u:Value}(r:RelV x u)(q:RelV y u):x=y:=Option.some.inj (r.abs.symm.trans q.abs)
theorem Vals.inj{xs ys:List V}{us:List Value}(a:Vals xs us)(b:Vals ys us):xs=ys:=by
 induction a generalizing ys with
 | nil=>cases b;rfl
 | cons r t ih =>
  cases b with
  | cons r' t'=>rw[r.inj r',ih t']
section
variable{X:Cx}{pins:List (Addr×Obj)}{σ:St}{H:Hp}{s:Shared}{a:Addr}{xs ys:List V}
theorem SqL.of{K:PySem.W.Frag}(h:H a=some (.lst xs)):SqL K H a xs:=.inl (.inl h)
theorem SqT.of{K:PySem.W.Frag}(h:H a=some (.tup xs)):SqT K H a xs:=.inl (.inl h)
theorem Inv.list(I:Inv X pins σ H s)(h:SqL X.K H a xs):∃its:List Value,Vals xs its/\PlainL s.heap a its.toArray/\xs.length<=sizeLine:=by
 rcases h with h | ⟨o,its,n,hk,hc,hd,hs,hz,r⟩
 ·obtain⟨z,its,n,r,e⟩:=h.ok I.hok
  exact⟨its,r,⟨_,n,e,rfl,rfl,rfl⟩,z⟩
 ·refine⟨its.toList,r,⟨o,n,I.kIn a o hk,hc,hd,by simpa using hs⟩,?_⟩
  have e:=r.length
  simp only[Array.length_toList] at e
  omega
theorem Inv.tuple(I:Inv X pins σ H s)(h:SqT X.K H a xs):∃its:List Value,Vals xs its/\IsTup s.heap a its.toArray/\xs.length<=sizeLine:=by
 rcases h with h | ⟨o,its,n,hk,hc,hs,hz,r⟩
 ·obtain⟨z,its,r,p⟩:=h.ok I.hok
  exact⟨its,r,p,z⟩
 ·refine⟨its.toList,r,⟨o,I.kIn a o hk,hc,n,by simpa using hs⟩,?_⟩
  have e:=r.length
  simp only[Array.length_toList] at e
  omega
theorem Inv.list_inj(I:Inv X pins σ H s)(h:SqL X.K H a xs)(h':SqL X.K H a ys):xs=ys:=by
 obtain⟨its,r,⟨o,n,e,_,_,d⟩,_⟩:=I.list h
 obtain⟨its',r',⟨o',n',e',_,_,d'⟩,_⟩:=I.list h'
 rw[e] at e';cases e'
 rw[d] at d'
 injection d' with d1 _
 have:its=its':=by simpa using congrArg Array.toList d1
 subst this
 exact r.inj r'
end
abbrev Cx.wish(X:Cx)(E:Value->Shared->Prop):Cx:={X with xe:=E}
abbrev Cx.nox(X:Cx):Cx:=X.wish fun _ _=>False
theorem Cx.Ok.wish{X:Cx}(ok:X.Ok)(E:Value->Shared->Prop):(X.wish E).Ok :=
 ⟨ok.mod,ok.kind,ok.glob,ok.blt,ok.above,ok.inj,ok.has,ok.cab,ok.hd,ok.frames,ok.stk,ok.exf,ok.bs,ok.bsz,ok.noex,ok.exfs,ok.funs,ok.frf⟩
theorem Cx.Ok.unwish{X:Cx}{E:Value->Shared->Prop}(ok:(X.wish E).Ok):X.Ok :=
 ⟨ok.mod,ok.kind,ok.glob,ok.blt,ok.above,ok.inj,ok.has,ok.cab,ok.hd,ok.frames,ok.stk,ok.exf,ok.bs,ok.bsz,ok.noex,ok.exfs,ok.funs,ok.frf⟩
section
variable{X:Cx}{pins:List (Addr×Obj)}{σ:St}{H:Hp}{s:Shared}{E:Value->Shared->Prop}
theorem Inv.wish(I:Inv X pins σ H s)(E:Value->Shared->Prop):Inv (X.wish E) pins σ H s:=⟨I.ok.wish E,I.os,I.bare,I.base,I.loc,I.cell,I.free,I.freeC,I.pin,I.hok,I.len⟩
theorem Inv.unwish(I:Inv (X.wish E) pins σ H s):Inv X pins σ H s:=⟨I.ok.unwish,I.os,I.bare,I.base,I.loc,I.cell,I.free,I.freeC,I.pin,I.hok,I.len⟩
theorem SP.unwish{D:Ends}{f:Flow}{s':Shared}(h:SP (X.wish E) pins D f s'):SP X pins D f s':=by
 cases f with
 | next=>obtain⟨σ',H',I,q⟩:=h;exact⟨σ',H',I.unwish,q⟩
 | brk=>obtain⟨σ',H',I,q⟩:=h;exact⟨σ',H',I.unwish,q⟩
 | cont=>obtain⟨σ',H',I,q⟩:=h;exact⟨σ',H',I.unwish,q⟩
 | ret u=>obtain⟨v,σ',H',I,r,q⟩:=h;exact⟨v,σ',H',I.unwish,r,q⟩
theorem PSs.nox{st:List Stmt}{t:TS}(h:PSs X.nox st t):PSs X st t:=fun pins s σ H D I hw =>
 wpAny_mono (h pins s σ H D (I.wish _) hw) (fun _ _ q=>q.unwish) fun _ _ z=>False.elim z
end
section
variable{X:Cx}{st:Stmt}{rest:List Stmt}{t u:TS}{e:Expr}{te:TE}{pos:Pos}
def tNext:TS:=fun D σ H=>D.nx σ H
def tSeq(t u:TS):TS:=fun D σ H=>t {D with nx:=u D} σ H
theorem q_:PSs X [] tNext:=fun _ _ σ H _ I h=>wpAny_execs_nil ⟨σ,H,I,h⟩
theorem b_(h1:PS X st t)(h2:PSs X rest u):PSs X (st::rest) (tSeq t u):=by
 intro pins s σ H D I h
 refine wpAny_execs_cons (thn (h1 pins s σ H {D with nx:=u D} I h) fun f s1 q=>?_)
 cases f with
 | next =>
  obtain⟨σ',H',I',q⟩:=q
  exact h2 pins s1 σ' H' D I' q
 | ret v=>exact q
 | brk=>exact q
 | cont=>exact q
theorem h_(h1:PS X st t):PSs X [st] t:=by
 intro pins s σ H D I h
 refine wpAny_execs_cons (thn (h1 pins s σ H D I h) fun f s1 q=>?_)
 cases f with
 | next=>exact wpAny_execs_nil q
 | ret v=>exact q
 | brk=>exact q
 | cont=>exact q
theorem Inv.quiet{pins:List (Addr×Obj)}{σ:St}{H:Hp}{s:Shared}(I:Inv X pins σ H s):interactive X.env=false:=by simp[interactive,I.ok.kind]
def tDrop(te:TE):TS:=fun D σ H=>te σ H fun _ H1=>D.nx σ H1
theorem I_(he:PE X e te)(hs:swapsWith e none pos.line X.env=pure false:=by rfl):PS X (.Expr e pos) (tDrop te):=by
 intro pins s σ H D I h
 exact wpAny_Expr_any (thn (he pins s σ H _ I h) fun v s1 ⟨x,H1,I1,r1,q1⟩=>⟨σ,H1,I1,q1⟩) I.quiet hs
def tRet(te:TE):TS:=fun D σ H=>te σ H D.rt
theorem m_(he:PE X e te):PS X (.Return (some e) pos) (tRet te):=by
 intro pins s σ H D I h
 exact wpAny_Return_some (thn (he pins s σ H _ I h) fun v s1 ⟨x,H1,I1,r1,q1⟩=>⟨x,σ,H1,I1,r1,q1⟩)
def tIfS(c:TT)(t u:TS):TS:=fun D σ H=>c σ H fun b H1=>if b=true then t D σ H1 else u D σ H1
theorem F_{c:Expr}{a b:List Stmt}{tc:TT}(hc:PT X c tc)(ha:PSs X a t)(hb:PSs X b u):PS X (.If c a b pos) (tIfS tc t u):=by
 intro pins s σ H D I h
 refine wpAny_If (thn (hc pins s σ H _ I h) fun d s1 ⟨H1,I1,q1⟩=>?_)
 cases d with
 | true=>exact ha pins s1 σ H1 D I1 q1
 | false=>exact hb pins s1 σ H1 D I1 q1
def qj_:TS:=fun _ _ _=>False
theorem Q_{sts:List Stmt}:PSs X sts qj_:=fun _ _ _ _ _ _ h=>h.elim
end
abbrev TG:=V->St->Hp->(St->Hp->Prop)->Prop
abbrev TGs:=List V->St->Hp->(St->Hp->Prop)->Prop
def PG(X:Cx)(target:Expr)(t:TG):Prop :=
 ∀(pins:List (Addr×Obj)) (s:Shared) (σ:St) (H:Hp) (v:V) (u:Value) (Q:St->Hp->Prop),Inv X pins σ H s->RelV v u->t v σ H Q->
  wpAny (model X.prog X.w) X.A (assign target X.env u) (fun _ s'=>∃ σ' H',Inv X pins σ' H' s'/\Q σ' H') X.xe s
def PGs(X:Cx)(ts:List Expr)(t:TGs):Prop :=
 ∀(pins:List (Addr×Obj)) (s:Shared) (σ:St) (H:Hp) (vs:List V) (us:List Value) (Q:St->Hp->Prop),Inv X pins σ H s->Vals vs us->t vs σ H Q->
  wpAny (model X.prog X.w) X.A (assignInOrder ((assignEach ts X.env).map (·.2)) us) (fun _ s'=>∃ σ' H',Inv X pins σ' H' s'/\Q σ' H') X.xe s
abbrev TSet:=V->V->V->Hp->(Hp->Prop)->Prop
def PSet(X:Cx)(t:TSet):Prop :=
 ∀(pins:List (Addr×Obj)) (s:Shared) (σ:St) (H:Hp) (o i v:V) (ov iv u:Value) (Q:Hp->Prop),Inv X pins σ H s->RelV o ov->RelV i iv->RelV v u->t o i v H Q->
  wpAny (model X.prog X.w) X.A (setItem ov iv u) (fun _ s'=>∃H',Inv X pins σ H' s'/\Q H') X.xe s
abbrev TIp:=V->V->Hp->VK->Prop
def PIp(X:Cx)(op:Operator)(t:TIp):Prop :=
 ∀(pins:List (Addr×Obj)) (s:Shared) (σ:St) (H:Hp) (x y:V) (v u:Value) (Q:VK),Inv X pins σ H s->RelV x v->RelV y u->t x y H Q->
  wpAny (model X.prog X.w) X.A (inplaceOp op v u) (EP X pins σ Q) X.xe s
section
variable{X:Cx}{pos:Pos}
def gName(i:Nat):TG:=fun v σ H Q=>Q (σ.set i (some v)) H
theorem p_{i:Nat}{x:Str}(hN:X.N.Nodup)(hi:X.N[i]?=some x)(hx:Loc X.env.scope x)(hf:X.fn x=true\/X.env.scope.names.lookup x=some .local:=by first | exact .inl rfl | exact .inr rfl | assumption):PG X (.Name x pos) (gName i):=by
 intro pins s σ H v u Q I r h
 exact wpAny_assign_Name (aR_ I hN hi hx r (fun s' I'=>⟨_,H,I',h⟩) hf)
def gNil:TGs:=fun vs σ H Q=>vs=[]/\Q σ H
def gCons(t:TG)(u:TGs):TGs:=fun vs σ H Q=>∃v r,vs=v::r/\t v σ H fun σ' H'=>u r σ' H' Q
theorem aY_:PGs X [] gNil:=by
 intro pins s σ H vs us Q I r h
 obtain⟨e,h⟩:=h
 subst e
 cases r
 exact assignInOrder_nil ⟨σ,H,I,h⟩
theorem z_{e:Expr}{es:List Expr}{t:TG}{u:TGs}(h1:PG X e t)(h2:PGs X es u)
  (hs:(assignEach (e::es) X.env).map (·.2)=assign e X.env::(assignEach es X.env).map (·.2):=by rfl):PGs X (e::es) (gCons t u):=by
 intro pins s σ H vs us Q I r h
 obtain⟨v,vr,e1,h⟩:=h
 subst e1
 cases r with
 | cons r rr =>
  rw[hs]
  refine assignInOrder_cons (thn (h1 pins s σ H _ _ _ I r h) fun _ s1 ⟨σ1,H1,I1,q1⟩=>?_)
  exact h2 pins s1 σ1 H1 _ _ Q I1 rr q1
def gTup(K:PySem.W.Frag)(n:Nat)(t:TGs):TG:=fun v σ H Q=>∃a xs,v=.ref a/\SqT K H a xs/\xs.length=n/\t xs σ H Q
theorem ej_{es:List Expr}{k:Nat}{t:TGs}{n:Nat}(hc:X.calm=true)(h:PGs X es t)
  (hn:(assignEach es X.env).length=n:=by rfl) (hst:(assignEach es X.env).findIdx? (·.1)=none:=by rfl):PG X (.Tuple es k pos) (gTup X.K n t):=by
 intro pins s σ H v u Q I r hw
 obtain⟨a,xs,e1,hq,hl,hw⟩:=hw
 subst e1
 cases r
 obtain⟨its,rv,ht,hz⟩:=I.tuple hq
 refine assign_Tuple_tuple (I.ok.hd hc) ht (by simp[hn,<-hl,rv.length]) hst fun h' hx=>?_
 have I1:Inv X pins σ H {s with heap:=h'}:=I.kept (t':=s.toks) fun b o e=>hx b o (Nat.ne_of_lt (Heap.lt_size e)) e
 exact h pins _ σ H xs _ Q I1 (by simpa using rv) hw
def gSub(to ti:TE)(t:TSet):TG:=fun v σ H Q=>to σ H fun o H1=>ti σ H1 fun i H2=>t o i v H2 fun H3=>Q σ H3
theorem fQ_{o i:Expr}{to ti:TE}{t:TSet}(ho:PE X o to)(hi:PE X i ti)(hs:PSet X t)
  (ha:∀v,assign (.Subscript o i pos) X.env v=(do
   let ov <-holding [v] (eval o X.env)
   let iv <-holding [v,ov] (eval i X.env)
   standAt pos
   holding [v,ov,iv] (setItem ov iv v)
   release [v,ov,iv] []):=by intro _;rfl):PG X (.Subscript o i pos) (gSub to ti t):=by
 intro pins s σ H v u Q I r h
 rw[ha]
 refine wpAny_bind (wpAny_holding (thn (ho pins s σ H _ I h) fun ov s1 ⟨x,H1,I1,r1,q1⟩=>?_))
 refine wpAny_bind (wpAny_holding (thn (hi pins s1 σ H1 _ I1 q1) fun iv s2 ⟨y,H2,I2,r2,q2⟩=>?_))
 refine wpAny_bind (wpAny_standAt (wpAny_bind (wpAny_holding (thn (hs pins s2 σ H2 x y v ov iv u _ I2 r1 r2 r q2) fun _ s3 ⟨H3,I3,q3⟩=>?_))))
 exact wpAny_release ⟨σ,H3,I3,q3⟩
def tAsg(te:TE)(g:TG):TS:=fun D σ H=>te σ H fun x H1=>g x σ H1 D.nx
theorem ch_{tg e:Expr}{te:TE}{g:TG}(he:PE X e te)(hg:PG X tg g)(hs:swapsWithSole [tg] e pos.line X.env=pure false:=by rfl)(hw:swappedStores [tg] e X.env=pure none:=by rfl)
  (h1:(assignEach [tg] X.env).map (·.2)=[assign tg X.env]:=by rfl):PS X (.Assign [tg] e pos) (tAsg te g):=by
 intro pins s σ H D I h
 refine wpAny_Assign_stores (thn (he pins s σ H _ I h) fun v s1 ⟨x,H1,I1,r1,q1⟩=>?_) hs hw
 rw[h1]
 exact thn (hg pins s1 σ H1 x v _ I1 r1 q1) fun _ s2 q=>q
theorem j_{i:Nat}{x:Str}{e:Expr}{te:TE}{pos':Pos}(hN:X.N.Nodup)(hi:X.N[i]?=some x)(hx:Loc X.env.scope x)(he:PE X e te)(hs:swapsWith e (some (.Name x pos')) pos.line X.env=pure false:=by rfl)(hf:X.fn x=true\/X.env.scope.names.lookup x=some .local:=by first | exact .inl rfl | exact .inr rfl | assumption) :
  PS X (.Assign [.Name x pos'] e pos) (tAsg te (gName i)):=by
 intro pins s σ H D I h
 refine wpAny_Assign_Name (thn (he pins s σ H _ I h) fun v s1 ⟨y,H1,I1,r1,q1⟩=>?_) hs
 exact aR_ I1 hN hi hx r1 (fun s2 I2=>⟨_,H1,I2,q1⟩) hf
def tAug(i:Nat)(te:TE)(ti:TIp):TS:=fun D σ H=>∃x,σ[i]?=some (some x)/\te σ H fun y H1=>ti x y H1 fun z H2=>D.nx (σ.set i (some z)) H2
theorem qt_{i:Nat}{x:Str}{e:Expr}{te:TE}{op:Operator}{ti:TIp}{pos':Pos}(hN:X.N.Nodup)(hi:X.N[i]?=some x)(hx:Loc X.env.scope x)(he:PE X e te)(ho:PIp X op ti)(hf:X.fn x=true\/X.env.scope.names.lookup x=some .local:=by first | exact .inl rfl | exact .inr rfl | assumption) :
  PS X (.AugAssign (.Name x pos') op e pos) (tAug i te ti):=by
 intro pins s σ H D I h
 obtain⟨v,e1,h⟩:=h
 obtain⟨m,hn,hl⟩:=I.loc
 have vis:Vis X.env.scope x:=by rcases hx with k | k;exact .inl k;exact .inr (.inl k)
 obtain⟨u,r,l⟩:=hl i x v hi e1 vis
 refine wpAny_AugAssign_Name ?_
 have go:wpAny (model X.prog X.w) X.A (eval e X.env) (fun w s₂=>wpAny (model X.prog X.w) X.A (inplaceOp op u w) (fun r s₃=>wpAny (model X.prog X.w) X.A (storeName X.env x r) (fun _=>SP X pins D .next) X.xe s₃) X.xe s₂) X.xe s:=by
  refine thn (he pins s σ H _ I h) fun w s1 ⟨y,H1,I1,r1,q1⟩=>?_
  refine thn (ho pins s1 σ H1 v y u w _ I1 r r1 q1) fun z s2 ⟨zv,H2,I2,r2,q2⟩=>?_
  exact aR_ I2 hN hi hx r2 (fun s3 I3=>⟨_,H2,I3,q2⟩) hf
 rcases l with⟨hk,hm⟩ | ⟨hk,c,hc,hcell⟩
 ·exact wpAny_loadName_local I.ok.kind hk hn hm go
 ·rcases hk with hk | hk
  ·exact wpAny_loadName_cell I.ok.kind hk hc hcell go
  ·rcases hx with k | k
   ·have:X.env.scope.names.lookup x=some .free:=hk
    rw[k] at this;cases this
   ·have:X.env.scope.names.lookup x=some .free:=hk
    rw[k] at this;cases this
def ipI(f:Int->Int->Int):TIp:=fun x y H Q=>∃i j,x=.int i/\y=.int j/\Q (.int (f i j)) H
theorem qX_:PIp X .Add (ipI fun i j=>i+j):=by
 intro pins s σ H x y v u Q I r1 r2 h
 obtain⟨i,j,e1,e2,q⟩:=h
 subst e1;subst e2
 obtain⟨t,rfl⟩:=r1
 obtain⟨t',rfl⟩:=r2
 exact iadd_int ⟨.int _,H,I.tok _,⟨_,rfl⟩,q⟩
def qg_(c:TT)(tb:TS):TS:=fun D σ H=>∃W:Nat->St->Hp->Prop,(∃m,W m σ H)/\∀m σ H,W m σ H->
 c σ H fun b H1=>if b=true then ∃N:St->Hp->Prop,(∀ σ' H',N σ' H'->∃m',m'<m/\W m' σ' H')/\tb {D with nx:=N,ct:=N,bk:=D.nx} σ H1 else D.nx σ H1
theorem mJ_{c:Expr}{body:List Stmt}{tc:TT}{tb:TS}(hp:PassesOwn (model X.prog X.w) X.A X.env X.xe)(hc:PT X c tc)(hb:PSs X body tb):PS X (.While c body [] pos) (qg_ tc tb):=by
 intro pins s σ H D I h
 obtain⟨W,⟨m0,w0⟩,turn⟩:=h
 refine wpAny_While (codeAny_whileLoop (fun n s'=>∃ σ' H',Inv X pins σ' H' s'/\W n σ' H') ?_ m0 ⟨σ,H,I,w0⟩)
 rintro n s1 ⟨σ1,H1,I1,w1⟩
 refine wpAny_passesOwn hp (thn (hc pins s1 σ1 H1 _ I1 (turn n σ1 H1 w1)) fun b s2 ⟨H2,I2,q2⟩=>?_)
 cases b with
 | true =>
  obtain⟨N,hN,q2⟩:=q2
  rw[if_pos rfl]
  refine wpAny_passesOwn hp (thn (hb pins s2 σ1 H2 _ I2 q2) fun f s3 q3=>?_)
  cases f with
  | next =>
   obtain⟨σ3,H3,I3,n3⟩:=q3
   obtain⟨m',hm,w3⟩:=hN σ3 H3 n3
   exact⟨m',hm,σ3,H3,I3,w3⟩
  | cont =>
   obtain⟨σ3,H3,I3,n3⟩:=q3
   obtain⟨m',hm,w3⟩:=hN σ3 H3 n3
   exact⟨m',hm,σ3,H3,I3,w3⟩
  | brk=>exact q3
  | ret v=>exact q3
 | false =>
  rw[if_neg Bool.false_ne_true]
  exact wpAny_execs_nil ⟨σ1,H2,I2,q2⟩
end
structure It where
 go:Nat->Hp->Prop
 yld:Nat->Hp->V->Hp->Prop
 stop:Nat->Hp->Prop
def FpOk(X:Cx)(pins:List (Addr×Obj))(H:Hp)(b:Addr):Prop :=
 H b=none/\b≠X.env.locals/\b∉X.fs/\(b∈X.ex\/X.s₀.heap.objs.size<=b)/\(∀x c,X.env.cells.lookup x=some c->c≠b)/\∀p∈X.pn++pins,p.1≠b
theorem Inv.fpOk{X:Cx}{pins:List (Addr×Obj)}{σ:St}{H H':Hp}{s:Shared}{b:Addr}(I:Inv X pins σ H s)(hb:s.heap.objs.size<=b)(hn:H' b=none):FpOk X pins H' b:=by
 refine⟨hn,Nat.ne_of_gt (Nat.lt_of_lt_of_le I.lt hb),I.nofs hb,.inr (Nat.le_trans I.sz hb),fun x c e z=>?_,fun p hp z=>?_⟩
 ·obtain⟨v,q⟩:=I.cell x c e
  exact absurd (Nat.lt_of_lt_of_le q.lt (by rw[z];exact hb)) (Nat.lt_irrefl _)
 ·exact absurd (Nat.lt_of_lt_of_le (Heap.lt_size (I.pin p hp).1) (by rw[z];exact hb)) (Nat.lt_irrefl _)
structure Turn(P:Program)(w:World)(K:PySem.W.Frag)(tg:Expr)(J:It)(fp:List Addr)(it:Addr)(tn:Nat->Heap->Prop):Prop where
 mem:it∈fp
 obj:∀i h,tn i h->∀b∈fp,∃o,h.get? b=some o/\∀v,o.data≠.cell v
 keep:∀i h h',tn i h->(∀b∈fp,∀o,h.get? b=some o->h'.get? b=some o)->tn i h'
 item:∀(X:Cx),X.prog=P->X.w=w->X.K=K->X.calm=true->∀(i:Nat) (pins:List (Addr×Obj)) (s:Shared) (σ:St) (H:Hp) (E:Value->Shared->Prop),Inv X pins σ H s->(∀b∈fp,FpOk X pins H b)->tn i s.heap->J.go i H->
  wpAny (model P w) X.A (pyNext (.ref it)) (fun r s1=>∃u,r=some u/\
   wpAny (model P w) X.A (letOwnedTupleGo tg (.ref it) u) (fun _ s2=>∃x H',Inv X pins σ H' s2/\RelV x u/\J.yld i H x H'/\tn (i+1) s2.heap/\∀b∈fp,H' b=none) E s1) E s
 done:∀(X:Cx),X.prog=P->X.w=w->X.K=K->X.calm=true->∀(i:Nat) (pins:List (Addr×Obj)) (s:Shared) (σ:St) (H:Hp) (E:Value->Shared->Prop),Inv X pins σ H s->(∀b∈fp,FpOk X pins H b)->tn i s.heap->J.stop i H->
  wpAny (model P w) X.A (pyNext (.ref it)) (fun r s1=>r=none/\Inv X pins σ H s1) E s
 self:∀(A:Around) (i:Nat) (s:Shared) (Q:Value->Shared->Prop) (E:Value->Shared->Prop),tn i s.heap->Q (.ref it) s->wpAny (model P w) A (pyIter (.ref it)) Q E s
abbrev TI:=St->Hp->(It->Hp->Prop)->Prop
def PIE(X:Cx)(pins:List (Addr×Obj))(σ:St)(tg:Expr)(R:It->Hp->Prop)(itv:Value)(s2:Shared):Prop :=
 ∃(it:Addr) (fp:List Addr) (tn:Nat->Heap->Prop) (J:It) (H':Hp),itv=.ref it/\Inv X pins σ H' s2/\Turn X.prog X.w X.K tg J fp it tn/\tn 0 s2.heap/\(∀b∈fp,FpOk X pins H' b)/\R J H'
def PI(X:Cx)(tg iter:Expr)(wi:TI):Prop :=
 ∀(pins:List (Addr×Obj)) (s:Shared) (σ:St) (H:Hp) (R:It->Hp->Prop),Inv X pins σ H s->wi σ H R->
  wpAny (model X.prog X.w) X.A (eval iter X.env) (fun v s1=>wpAny (model X.prog X.w) X.A (pyIter v) (PIE X pins σ tg R) X.xe s1) X.xe s
theorem pC_{M:Model}{A:Around}{E:Value->Shared->Prop}{s:Shared}{tg:Expr}{it:Addr}{u:Value}{o:Obj}{n:String}{vs:Array Value}{Q:Unit->Shared->Prop}(ho:s.heap.get? it=some o)(hc:o.cls=.type n)(hd:o.data=.fields vs)
  (hn:["enumerate","zip","dict_itemiterator","dict_reverseitemiterator","odict_iterator","itertools.zip_longest","itertools.pairwise"].contains n=false) (hQ:Q () s):wpAny M A (letOwnedTupleGo tg (.ref it) u) Q E s:=by
 unfold letOwnedTupleGo
 cases tg <;> first
  | exact wpAny_pure hQ
  | (cases u <;> first
    | exact wpAny_pure hQ
    | (refine wpAny_bind (wpAny_load ho ?_)
       rw[hc,hd]
       show wpAny M A (if (["enumerate","zip","dict_itemiterator","dict_reverseitemiterator","odict_iterator","itertools.zip_longest","itertools.pairwise"].contains n&&vs[0]?==some (rawInt _))=true then _ else _) Q E s
       rw[if_neg (by intro h;rw[hn,Bool.false_and] at h;cases h)]
       exact wpAny_pure hQ))
def Itl(K:PySem.W.Frag)(a:Addr):It :=
 ⟨fun i H=>∃xs x,SqL K H a xs/\xs[i]?=some x,fun i H x H'=>H'=H/\∀xs,SqL K H a xs->xs[i]?=some x,fun i H=>∃xs,SqL K H a xs/\xs.length<=i⟩
def Itr(lo:Int)(n:Nat):It:=⟨fun i _=>i<n,fun i H x H'=>H'=H/\x=.int (lo+i),fun i _=>n<=i⟩
theorem kg_{P:Program}{w:World}{K:PySem.W.Frag}{tg:Expr}(a it:Addr):Turn P w K tg (Itl K a) [it] it (fun i h=>h.IsListIter it a i) where
 mem:=by simp
 obj:=fun i h st b hb=>by
  have e:b=it:=by simpa using hb
  subst e
  obtain⟨o,e,c,d⟩:=st
  exact⟨o,e,fun v z=>by rw[d] at z;cases z⟩
 keep:=fun i h h' st k=>st.at fun o e=>k it (by simp) o e
 item:=by
  intro X hP hw hK hc i pins s σ H E I hf st hg
  subst hP hw hK
  obtain⟨xs,x,hq,hx⟩:=hg
  obtain⟨its,rv,p,hz⟩:=I.list hq
  obtain⟨u,hu,ru⟩:=rv.get hx
  obtain⟨f0,f1,f2,f3,f4,f5⟩:=hf it (by simp)
  refine wpAny_pyNext_list_item st p.isList (x:=u) (by simpa using hu) fun h' st' sb=>?_
  have I1:Inv X pins σ H {s with heap:=h'}:=I.turned (t':=s.toks) (fun b o hb e=>(sb.2 b hb).trans e) f0 f1 f3 f4 f5
  obtain⟨o,e,c,d⟩:=id st'
  exact⟨u,rfl,pC_ (s:={s with heap:=h'}) e c d (by decide) ⟨x,H,I1,ru,⟨rfl,fun ys hy=>by rw[I.list_inj hy hq];exact hx⟩,st',fun b hb=>(hf b hb).1⟩⟩
 done:=by
  intro X hP hw hK hc i pins s σ H E I hf st hg
  subst hP hw hK
  obtain⟨xs,hq,hx⟩:=hg
  obtain⟨its,rv,p,hz⟩:=I.list hq
  obtain⟨f0,f1,f2,f3,f4,f5⟩:=hf it (by simp)
  have hl:=rv.length
  exact wpAny_pyNext_list_end (I.ok.hd hc) st p.isList (by simp;omega) fun h' eb=>⟨rfl,I.turned (t':=s.toks) (fun b o hb e=>eb b o hb e) f0 f1 f3 f4 f5⟩
 self:=fun _ _ _ _ _ st h=>wpAny_pyIter_listiter st h
theorem jh_{P:Program}{w:World}{K:PySem.W.Frag}{tg:Expr}(it:Addr)(lo:Int)(n:Nat):Turn P w K tg (Itr lo n) [it] it (fun i h=>IsRangeIter h it (lo+(i:Nat)*1) ((n:Int)-(i:Nat)) 1) where
 mem:=by simp
 obj:=fun i h st b hb=>by
  have e:b=it:=by simpa using hb
  subst e
  exact⟨_,st,fun v z=>by
   have z':Data.fields _=Data.cell v:=z
   cases z'⟩
 keep:=fun i h h' st k=>k it (by simp) _ st
 item:=by
  intro X hP hw hK hc i pins s σ H E I hf st hg
  subst hP hw hK
  obtain⟨f0,f1,f2,f3,f4,f5⟩:=hf it (by simp)
  have W:=Walks.range (prog:=X.prog) (w:=X.w) (I.ok.hd hc) it lo 1 n
  refine W.item i s _ _ hg st fun v h' tk hv st' kk=>?_
  obtain⟨t,rfl⟩:=hv
  have I1:Inv X pins σ H {s with heap:=h',toks:=tk}:=I.turned (fun b o hb e=>kk b o (by simpa using hb) e) f0 f1 f3 f4 f5
  refine⟨_,rfl,pC_ (s:={s with heap:=h',toks:=tk}) (n:="range_iterator") st' rfl rfl (by decide) ⟨.int (lo+i),H,I1,⟨t,?_⟩,⟨rfl,rfl⟩,st',fun b hb=>(hf b hb).1⟩⟩
  rw[Int.mul_one]
 done:=by
  intro X hP hw hK hc i pins s σ H E I hf st hg
  subst hP hw hK
  obtain⟨f0,f1,f2,f3,f4,f5⟩:=hf it (by simp)
  exact wpAny_pyNext_range_end (I.ok.hd hc) st (by have:n<=i:=hg;omega) fun h' eb=>⟨rfl,I.turned (t':=s.toks) (fun b o hb e=>eb b o hb e) f0 f1 f3 f4 f5⟩
 self:=fun _ _ _ _ _ st h=>wpAny_pyIter_rangeiter st h
section
variable{X:Cx}{tg:Expr}
def iList(K:PySem.W.Frag)(tl:TE):TI:=fun σ H R=>tl σ H fun x H1=>∃a,x=.ref a/\(∃xs,SqL K H1 a xs)/\R (Itl K a) H1
theorem O_{l:Expr}{tl:TE}(hl:PE X l tl):PI X tg l (iList X.K tl):=by
 intro pins s σ H R I h
 refine thn (hl pins s σ H _ I h) fun v s1 ⟨x,H1,I1,r1,q1⟩=>?_
 obtain⟨a,e,⟨xs,hq⟩,q⟩:=q1
 subst e
 cases r1
 obtain⟨its,rv,p,hz⟩:=I1.list hq
 refine wpAny_pyIter_list p.isList ?_
 refine⟨s1.heap.objs.size,[s1.heap.objs.size],_,_,H1,rfl,I1.kept (t':=s1.toks) fun b o e=>Heap.get?_push_of_some _ e,kg_ a _,⟨_,Heap.get?_push_size _ rfl,rfl,rfl⟩,fun b hb=>?_,q⟩
 have e:b=s1.heap.objs.size:=by simpa using hb
 subst e
 exact I1.fpOk (Nat.le_refl _) (I1.hok.fresh (Nat.le_refl _))
theorem it_{pins:List (Addr×Obj)}{σ:St}{H:Hp}{s:Shared}{R:It->Hp->Prop}{E:Value->Shared->Prop}{lo hi:Int}{t u v:Tok}{tk:Nat}(I:Inv X pins σ H s)(h1 : -(2 ^ 62)<=lo)(h2:lo<2 ^ 62)(h3 : -(2 ^ 62)<=hi)(h4:hi<2 ^ 62)
  (q:R (Itr lo (hi-lo).toNat) H):wpAny (model X.prog X.w) X.A (pyIter (.ref s.heap.objs.size)) (PIE X pins σ tg R) E {s with heap:=s.heap.push {cls:=.type "range",data:=.fields #[.int lo t,.int hi u,.int 1 v]},toks:=tk}:=by
 refine wpAny_pyIter_range (IsRange.new ..) (small_one h1 h2 h3 h4) ?_
 have I1:Inv X pins σ H {s with heap:=s.heap.push {cls:=.type "range",data:=.fields #[.int lo t,.int hi u,.int 1 v]},toks:=tk}:=I.kept fun b o e=>Heap.get?_push_of_some _ e
 refine⟨(s.heap.push {cls:=.type "range",data:=.fields #[.int lo t,.int hi u,.int 1 v]}).objs.size,[(s.heap.push {cls:=.type "range",data:=.fields #[.int lo t,.int hi u,.int 1 v]}).objs.size],_,_,H,rfl,
  I1.kept (t':=tk) fun b o e=>Heap.get?_push_of_some _ e,jh_ _ lo (hi-lo).toNat,?_,fun b hb=>?_,q⟩
 ·have e1:lo+((0:Nat):Int)*1=lo:=by simp
  have e2:(((hi-lo).toNat:Nat):Int)-((0:Nat):Int)=Builtin.Range.rangeSize lo hi 1:=by rw[rangeSize_one];split <;> omega
  show IsRangeIter _ _ (lo+((0:Nat):Int)*1) ((((hi-lo).toNat:Nat):Int)-((0:Nat):Int)) 1
  rw[e1,e2]
  exact Heap.get?_push_size _ rfl
 ·have e:b=(s.heap.push {cls:=.type "range",data:=.fields #[.int lo t,.int hi u,.int 1 v]}).objs.size:=by simpa using hb
  subst e
  exact I1.fpOk (Nat.le_refl _) (I1.hok.fresh (Nat.le_refl _))
def iRng1(ta:TA):TI:=fun σ H R=>ta σ H fun vs H1=>∃j:Int,vs=[.int j]/\-(2 ^ 62)<=j/\j<2 ^ 62/\R (Itr 0 j.toNat) H1
def iRng2(ta:TA):TI:=fun σ H R=>ta σ H fun vs H1=>∃i j:Int,vs=[.int i,.int j]/\(-(2 ^ 62)<=i/\i<2 ^ 62/\-(2 ^ 62)<=j/\j<2 ^ 62)/\R (Itr i (j-i).toNat) H1
theorem H_{a:Expr}{ta:TA}{p pos:Pos}(hg:Gl X "range")(hm:X.mg "range"=none)(ha:PA X [a] ta)(hs:starEach [a] X.env=[(false,eval a X.env)]:=by rfl):PI X tg (.Call (.Name "range" p) [a] [] pos) (iRng1 ta):=by
 intro pins s σ H R I h
 refine Call_ (bJ_ I hg hm boot_range (PyProof.Rows.callWith_type1 (thn (ha pos pins s σ H _ I h) fun us s1 ⟨vs,H1,I1,r1,q1⟩=>?_) hs rfl))
 obtain⟨j,e,q1,q2,q⟩:=q1
 subst e
 cases r1 with
 | cons r rr =>
  cases rr
  obtain⟨t,rfl⟩:=r
  exact call_range_1 (it_ I1 (by omega) (by omega) q1 q2 (by simpa using q))
theorem kW_{a b:Expr}{ta:TA}{p pos:Pos}(hg:Gl X "range")(hm:X.mg "range"=none)(ha:PA X [a,b] ta)(hs:starEach [a,b] X.env=[(false,eval a X.env),(false,eval b X.env)]:=by rfl)(hs2:starEach [b] X.env=[(false,eval b X.env)]:=by rfl) :
  PI X tg (.Call (.Name "range" p) [a,b] [] pos) (iRng2 ta):=by
 intro pins s σ H R I h
 refine Call_ (bJ_ I hg hm boot_range (PyProof.Rows.callWith_type1 (thn (ha pos pins s σ H _ I h) fun us s1 ⟨vs,H1,I1,r1,q1⟩=>?_) (by rw[hs,hs2]) (by rw[hs2];rfl)))
 obtain⟨i,j,e,⟨q1,q2,q3,q4⟩,q⟩:=q1
 subst e
 cases r1 with
 | cons r rr =>
  cases rr with
  | cons r' rr =>
   cases rr
   obtain⟨t,rfl⟩:=r
   obtain⟨t',rfl⟩:=r'
   exact call_range_2 (it_ I1 q1 q2 q3 q4 q)
def tFor(wi:TI)(g:TG)(tb:TS):TS:=fun D σ H=>wi σ H fun J H1=>∃W:Nat->Nat->St->Hp->Prop,(∃m,W 0 m σ H1)/\∀i m σ H,W i m σ H->
 (J.stop i H/\D.nx σ H)\/(J.go i H/\∃N:St->Hp->Prop,(∀ σ' H',N σ' H'->∃m',m'<m/\W (i+1) m' σ' H')/\∀x H',J.yld i H x H'->g x σ H' fun σ2 H2=>tb {D with nx:=N,ct:=N,bk:=D.nx} σ2 H2)
def cS_(fp:List Addr)(h:Heap):List (Addr×Obj):=fp.filterMap fun b=>(h.get? b).map fun o=>(b,o)
theorem bD_{fp:List Addr}{h:Heap}{b:Addr}{o:Obj}(hb:b∈fp)(e:h.get? b=some o):(b,o)∈cS_ fp h:=List.mem_filterMap.mpr ⟨b,hb,by rw[e];rfl⟩
theorem gg_{fp:List Addr}{h:Heap}{p:Addr×Obj}(hp:p∈cS_ fp h):p.1∈fp/\h.get? p.1=some p.2:=by
 obtain⟨b,hb,e⟩:=List.mem_filterMap.mp hp
 cases q:h.get? b with
 | none=>rw[q] at e;cases e
 | some o =>
  rw[q] at e
  have e':(b,o)=p:=Option.some.inj e
  subst e'
  exact⟨hb,q⟩
theorem Inv.pinned{pins:List (Addr×Obj)}{σ:St}{H:Hp}{s:Shared}{fp:List Addr}(I:Inv X pins σ H s)(hf:∀b∈fp,FpOk X pins H b)(ho:∀b∈fp,∃o,s.heap.get? b=some o/\∀v,o.data≠.cell v):Inv X (pins++cS_ fp s.heap) σ H s :=
 I.pins_of fun p hp=>(List.mem_append.mp hp).elim (fun z=>I.pin p (List.mem_append_right _ z)) fun z=>by
  obtain⟨hb,e⟩:=gg_ z
  obtain⟨f0,f1,f2,_⟩:=hf p.1 hb
  obtain⟨o,e',d⟩:=ho p.1 hb
  rw[e] at e';cases e'
  exact⟨e,f0,f1,f2,d⟩
theorem Inv.unpinned{pins pl:List (Addr×Obj)}{σ:St}{H:Hp}{s:Shared}(I:Inv X (pins++pl) σ H s):Inv X pins σ H s:=I.pins_of fun p hp=>I.pin p (List.mem_append_right _ (List.mem_append_left _ hp))
theorem V_{iter:Expr}{body:List Stmt}{wi:TI}{g:TG}{tb:TS}{pos:Pos}(hp:PassesOwn (model X.prog X.w) X.A X.env X.xe)(hc:X.calm=true)(hi:PI X tg iter wi)(hg:PG X tg g)(hb:PSs X body tb)
  (hs:∀x,foldedSetIterable iter X.env x=pure x:=by intro _;rfl):PS X (.For tg iter body [] pos) (tFor wi g tb):=by
 intro pins s σ H D I h
 refine wpAny_For (thn (hi pins s σ H _ I h) fun v s1 h1=>thn h1 fun itv s2 h2=>?_) hs
 obtain⟨it,fp,tn,J,H2,e,I2,T,st2,f2,W,⟨m0,w0⟩,turn⟩:=h2
 subst e
 have stat:∀ {H':Hp},(∀b∈fp,H' b=none)->∀b∈fp,FpOk X pins H' b:=fun hn b hb=>⟨hn b hb,(f2 b hb).2⟩
 refine codeAny_forLoop_any (fun n s'=>∃i σ' H',Inv X pins σ' H' s'/\tn i s'.heap/\(∀b∈fp,H' b=none)/\W i n σ' H') ?_ m0 ⟨0,σ,H2,I2,st2,fun b hb=>(f2 b hb).1,w0⟩
 rintro n s3 ⟨i,σ3,H3,I3,st3,fr3,w3⟩
 rcases turn i n σ3 H3 w3 with⟨stop,qn⟩ | ⟨go,N,hN,step⟩
 ·refine wpAny_passesOwn hp (thn (T.done X rfl rfl rfl hc i pins s3 σ3 H3 X.xe I3 (stat fr3) st3 stop) fun r s4 ⟨hr,I4⟩=>?_)
  subst hr
  exact wpAny_execs_nil ⟨σ3,H3,I4,qn⟩
 ·refine wpAny_passesOwn hp (thn (T.item X rfl rfl rfl hc i pins s3 σ3 H3 X.xe I3 (stat fr3) st3 go) fun r s4 ⟨u,hr,h4⟩=>?_)
  subst hr
  refine wpAny_passesOwn hp (thn h4 fun _ s5 ⟨x,H5,I5,r5,y5,st5,fr5⟩=>?_)
  have I5':=I5.pinned (stat fr5) (T.obj _ _ st5)
  refine wpAny_passesOwn hp (thn (hg _ s5 σ3 H5 x u _ I5' r5 (step x H5 y5)) fun _ s6 ⟨σ6,H6,I6,q6⟩=>?_)
  refine wpAny_passesOwn hp (thn (hb _ s6 σ6 H6 _ I6 q6) fun f s7 q7=>?_)
  have again:∀ {σ7:St} {H7:Hp},Inv X (pins++cS_ fp s5.heap) σ7 H7 s7->N σ7 H7->∃m,m<n/\∃i σ' H',Inv X pins σ' H' s7/\tn i s7.heap/\(∀b∈fp,H' b=none)/\W i m σ' H':=fun {σ7 H7} I7 n7=>by
   obtain⟨m',hm,w7⟩:=hN σ7 H7 n7
   refine⟨m',hm,i+1,σ7,H7,I7.unpinned,T.keep _ _ _ st5 fun b hb o e=>(I7.pin (b,o) (List.mem_append_right _ (List.mem_append_right _ (bD_ hb e)))).1,fun b hb=>?_,w7⟩
   obtain⟨o,e,d⟩:=T.obj _ _ st5 b hb
   exact(I7.pin (b,o) (List.mem_append_right _ (List.mem_append_right _ (bD_ hb e)))).2.1
  cases f with
  | next=>obtain⟨σ7,H7,I7,n7⟩:=q7;exact again I7 n7
  | cont=>obtain⟨σ7,H7,I7,n7⟩:=q7;exact again I7 n7
  | brk=>obtain⟨σ7,H7,I7,q7⟩:=q7;exact⟨σ7,H7,I7.unpinned,q7⟩
  | ret v=>obtain⟨x7,σ7,H7,I7,r7,q7⟩:=q7;exact⟨x7,σ7,H7,I7.unpinned,r7,q7⟩
end
theorem bc_{K:PySem.W.Frag}{a:Addr}{xs:List V}{g:TG}{tb:TS}{D:Ends}{σ:St}{H:Hp}(Pv:Nat->St->Hp->Prop)(h0:Pv 0 σ H)(hl:∀i σ H,i<=xs.length->Pv i σ H->SqL K H a xs)
  (hs:∀i x σ H,xs[i]?=some x->Pv i σ H->g x σ H fun σ2 H2=>tb {D with nx:=Pv (i+1),ct:=Pv (i+1),bk:=D.nx} σ2 H2) (hd:∀ σ H,Pv xs.length σ H->D.nx σ H) :
  ∃W:Nat->Nat->St->Hp->Prop,(∃m,W 0 m σ H)/\∀i m σ H,W i m σ H->
   ((Itl K a).stop i H/\D.nx σ H)\/((Itl K a).go i H/\∃N:St->Hp->Prop,(∀ σ' H',N σ' H'->∃m',m'<m/\W (i+1) m' σ' H')/\∀x H',(Itl K a).yld i H x H'->g x σ H' fun σ2 H2=>tb {D with nx:=N,ct:=N,bk:=D.nx} σ2 H2):=by
 refine⟨fun i m σ H=>m=xs.length-i/\i<=xs.length/\Pv i σ H,⟨xs.length,by simp,Nat.zero_le _,h0⟩,?_⟩
 rintro i m σ H ⟨rfl,hi,p⟩
 have q:=hl i σ H hi p
 by_cases hlt:i<xs.length
 ·refine .inr ⟨⟨xs,xs[i],q,by simp[hlt]⟩,Pv (i+1),fun σ' H' p'=>⟨xs.length-(i+1),by omega,rfl,hlt,p'⟩,fun x H' y=>?_⟩
  obtain⟨e,y⟩:=y
  subst e
  exact hs i x σ _ (y xs q) p
 ·have e:i=xs.length:=by omega
  subst e
  exact .inl ⟨⟨xs,q,Nat.le_refl _⟩,hd σ H p⟩
theorem Z_{lo:Int}{n:Nat}{g:TG}{tb:TS}{D:Ends}{σ:St}{H:Hp}(Pv:Nat->St->Hp->Prop)(h0:Pv 0 σ H)
  (hs:∀i σ H,i<n->Pv i σ H->g (.int (lo+i)) σ H fun σ2 H2=>tb {D with nx:=Pv (i+1),ct:=Pv (i+1),bk:=D.nx} σ2 H2) (hd:∀ σ H,Pv n σ H->D.nx σ H) :
  ∃W:Nat->Nat->St->Hp->Prop,(∃m,W 0 m σ H)/\∀i m σ H,W i m σ H->
   ((Itr lo n).stop i H/\D.nx σ H)\/((Itr lo n).go i H/\∃N:St->Hp->Prop,(∀ σ' H',N σ' H'->∃m',m'<m/\W (i+1) m' σ' H')/\∀x H',(Itr lo n).yld i H x H'->g x σ H' fun σ2 H2=>tb {D with nx:=N,ct:=N,bk:=D.nx} σ2 H2):=by
 refine⟨fun i m σ H=>m=n-i/\i<=n/\Pv i σ H,⟨n,by simp,Nat.zero_le _,h0⟩,?_⟩
 rintro i m σ H ⟨rfl,hi,p⟩
 by_cases hlt:i<n
 ·refine .inr ⟨hlt,Pv (i+1),fun σ' H' p'=>⟨n-(i+1),by omega,rfl,hlt,p'⟩,fun x H' y=>?_⟩
  obtain⟨e,y⟩:=y
  subst e y
  exact hs i σ _ hlt p
 ·have e:i=n:=by omega
  subst e
  exact .inl ⟨Nat.le_refl _,hd σ H p⟩
abbrev R2:=V->V->Hp->VK->Prop
def OpR(X:Cx)(f:Value->Value->Sem Value)(r:R2):Prop :=
 ∀(pins:List (Addr×Obj)) (s:Shared) (σ:St) (H:Hp) (x y:V) (v u:Value) (Q:VK),Inv X pins σ H s->RelV x v->RelV y u->r x y H Q->
  wpAny (model X.prog X.w) X.A (f v u) (EP X pins σ Q) X.xe s
def UnR(X:Cx)(f:Value->Sem Value)(r:V->Hp->VK->Prop):Prop :=
 ∀(pins:List (Addr×Obj)) (s:Shared) (σ:St) (H:Hp) (x:V) (v:Value) (Q:VK),Inv X pins σ H s->RelV x v->r x H Q->
  wpAny (model X.prog X.w) X.A (f v) (EP X pins σ Q) X.xe s
def CallR(X:Cx)(f:Value)(r:List V->Hp->VK->Prop):Prop :=
 ∀(pins:List (Addr×Obj)) (s:Shared) (σ:St) (H:Hp) (xs:List V) (us:List Value) (Q:VK),Inv X pins σ H s->Vals xs us->r xs H Q->
  wpAny (model X.prog X.w) X.A (call f us) (EP X pins σ Q) X.xe s
def tOp(r:R2)(ta tb:TE):TE:=fun σ H Q=>ta σ H fun x H1=>tb σ H1 fun y H2=>r x y H2 Q
def tUn(r:V->Hp->VK->Prop)(ta:TE):TE:=fun σ H Q=>ta σ H fun x H1=>r x H1 Q
def rI(C:Int->Int->Prop)(g:Int->Int->V):R2:=fun x y H Q=>∃i j,x=.int i/\y=.int j/\C i j/\Q (g i j) H
def rI0(g:Int->Int->V):R2:=fun x y H Q=>∃i j,x=.int i/\y=.int j/\Q (g i j) H
def rU(g:Int->V):V->Hp->VK->Prop:=fun x H Q=>∃i,x=.int i/\Q (g i) H
section
variable{X:Cx}{a b c:Expr}{ta tb tc:TE}{pos:Pos}
theorem binT(ha:PE X a ta)(hb:PE X b tb){pins:List (Addr×Obj)}{s:Shared}{σ:St}{H:Hp}{R:V->V->Hp->Prop}(I:Inv X pins σ H s)
  (h:ta σ H fun x H1=>tb σ H1 fun y H2=>R x y H2) {Q:Value->Shared->Prop} {f:Value->Value->Sem Value}
  (hf:∀v u s2 x y H2,Inv X pins σ H2 s2->RelV x v->RelV y u->R x y H2->wpAny (model X.prog X.w) X.A (f v u) Q X.xe s2) :
  wpAny (model X.prog X.w) X.A (eval a X.env) (fun v s₁=>wpAny (model X.prog X.w) X.A (eval b X.env) (fun u s₂=>wpAny (model X.prog X.w) X.A (f v u) Q X.xe s₂) X.xe s₁) X.xe s:=by
 refine thn (ha pins s σ H _ I h) fun v s1 ⟨x,H1,I1,r1,q1⟩=>?_
 refine thn (hb pins s1 σ H1 _ I1 q1) fun u s2 ⟨y,H2,I2,r2,q2⟩=>?_
 exact hf v u s2 x y H2 I2 r1 r2 q2
theorem n_{op:Operator}{r:R2}(ho:OpR X (binaryOp op) r)(ha:PE X a ta)(hb:PE X b tb):PE X (.BinOp a op b pos) (tOp r ta tb):=by
 intro pins s σ H Q I h
 exact wpAny_BinOp (binT ha hb I h fun v u s2 x y H2 I2 rx ry q=>ho pins s2 σ H2 x y v u Q I2 rx ry q)
theorem cj_{op:UnaryOp}{r:V->Hp->VK->Prop}(ho:UnR X (unaryOp op) r)(ha:PE X a ta):PE X (.UnaryOp op a pos) (tUn r ta):=by
 intro pins s σ H Q I h
 exact UnaryOp_ (thn (ha pins s σ H _ I h) fun v s1 ⟨x,H1,I1,r1,q1⟩=>ho pins s1 σ H1 x v Q I1 r1 q1)
theorem opI{f:Value->Value->Sem Value}{C:Int->Int->Prop}{g:Int->Int->Int}
  (rule:∀(i j:Int) (t u:Tok) (s:Shared) (Q:Value->Shared->Prop) (E:Value->Shared->Prop),C i j->Q (.int (g i j) s.toks) {s with toks:=s.toks+1}->wpAny (model X.prog X.w) X.A (f (.int i t) (.int j u)) Q E s) :
  OpR X f (rI C fun i j=>.int (g i j)):=by
 intro pins s σ H x y v u Q I rx ry h
 obtain⟨i,j,rfl,rfl,hc,q⟩:=h
 obtain⟨t,rfl⟩:=rx
 obtain⟨t',rfl⟩:=ry
 exact rule i j t t' s _ _ hc ⟨.int (g i j),H,I.tok _,⟨_,rfl⟩,q⟩
theorem opI0{f:Value->Value->Sem Value}{g:Int->Int->Int}
  (rule:∀(i j:Int) (t u:Tok) (s:Shared) (Q:Value->Shared->Prop) (E:Value->Shared->Prop),Q (.int (g i j) s.toks) {s with toks:=s.toks+1}->wpAny (model X.prog X.w) X.A (f (.int i t) (.int j u)) Q E s) :
  OpR X f (rI0 fun i j=>.int (g i j)):=by
 intro pins s σ H x y v u Q I rx ry h
 obtain⟨i,j,rfl,rfl,q⟩:=h
 obtain⟨t,rfl⟩:=rx
 obtain⟨t',rfl⟩:=ry
 exact rule i j t t' s _ _ ⟨.int (g i j),H,I.tok _,⟨_,rfl⟩,q⟩
theorem opB0{f:Value->Value->Sem Value}{g:Int->Int->Bool}
  (rule:∀(i j:Int) (t u:Tok) (s:Shared) (Q:Value->Shared->Prop) (E:Value->Shared->Prop),Q (.bool (g i j)) s->wpAny (model X.prog X.w) X.A (f (.int i t) (.int j u)) Q E s) :
  OpR X f (rI0 fun i j=>.bl (g i j)):=by
 intro pins s σ H x y v u Q I rx ry h
 obtain⟨i,j,rfl,rfl,q⟩:=h
 obtain⟨t,rfl⟩:=rx
 obtain⟨t',rfl⟩:=ry
 exact rule i j t t' s _ _ ⟨.bl (g i j),H,I,rfl,q⟩
def CDiv(i j:Int):Prop:=0<j/\j<1073741824
def CPow(i j:Int):Prop:=0<=j/\j<=1000000/\i.natAbs<2 ^ 64
def CMul(i j:Int):Prop:=(-(2 ^ 64)<i/\i<2 ^ 64)\/(-(2 ^ 64)<j/\j<2 ^ 64)
theorem CMul.ok{i j:Int}(h:CMul i j):IntMulOk i j:=by
 rcases h with⟨h1,h2⟩ | ⟨h1,h2⟩
 ·exact .of_left (intBits_le_64 h1 h2)
 ·exact .of_right (intBits_le_64 h1 h2)
theorem C_:OpR X (binaryOp .Add) (rI0 fun i j=>.int (i+j)):=opI0 fun _ _ _ _ _ _ _ q=>add_int q
theorem W_:OpR X (binaryOp .Sub) (rI0 fun i j=>.int (i-j)):=opI0 fun _ _ _ _ _ _ _ q=>sub_int q
theorem ad_:OpR X (binaryOp .Mult) (rI CMul fun i j=>.int (i*j)):=opI fun _ _ _ _ _ _ _ hc q=>mul_int q hc.ok
theorem eZ_:OpR X (binaryOp .FloorDiv) (rI CDiv fun i j=>.int (i / j)):=opI fun i j _ _ _ _ _ hc q=>by
 have h1:(0:Int)<j:=hc.1
 have h2:j<1073741824:=hc.2
 exact floordiv_int (by omega) (by rw[Int.fdiv_eq_ediv_of_nonneg i (by omega)];exact q) (.inl (PyProof.noPylong_small (by omega)))
theorem bI_:OpR X (binaryOp .Mod) (rI (fun _ j=>0<j) fun i j=>.int (i % j)):=opI fun i j _ _ _ _ _ hc q=>by
 have h1:(0:Int)<j:=hc
 exact mod_int' (by omega) (by rw[Int.fmod_eq_emod_of_nonneg i (by omega)];exact q)
theorem el_:OpR X (binaryOp .Pow) (rI CPow fun i j=>.int (i ^ j.toNat)):=opI fun _ _ _ _ _ _ _ hc q=>pow_int_small hc.1 hc.2.1 hc.2.2 q
theorem unI{f:Value->Sem Value}{g:Int->Int}
  (rule:∀(i:Int) (t:Tok) (s:Shared) (Q:Value->Shared->Prop) (E:Value->Shared->Prop),Q (.int (g i) s.toks) {s with toks:=s.toks+1}->wpAny (model X.prog X.w) X.A (f (.int i t)) Q E s) :
  UnR X f (rU fun i=>.int (g i)):=by
 intro pins s σ H x v Q I rx h
 obtain⟨i,rfl,q⟩:=h
 obtain⟨t,rfl⟩:=rx
 exact rule i t s _ _ ⟨.int (g i),H,I.tok _,⟨_,rfl⟩,q⟩
theorem ax_:UnR X (unaryOp .USub) (rU fun i=>.int (-i)):=unI fun _ _ _ _ _ q=>neg_int q
end
def scal:V->V->Bool
 | .non,.non=>true | .non,.int _=>true | .int _,.non=>true | .non,.bl _=>true | .bl _,.non=>true | .non,.str _=>true | .str _,.non=>true
 | .int _,.int _=>true | .bl _,.bl _=>true | .str _,.str _=>true | .byt _,.byt _=>true
 | .int _,.str _=>true | .str _,.int _=>true | .bl _,.str _=>true | .str _,.bl _=>true
 | _,_=>false
def rEq:R2:=fun x y H Q=>scal x y=true/\Q (.bl (decide (x=y))) H
def rNe:R2:=fun x y H Q=>scal x y=true/\Q (.bl (!decide (x=y))) H
theorem lZ_{i j:Int}:decide (V.int i=V.int j)=(i==j):=by
 rw[Bool.eq_iff_iff]
 simp
theorem os_{i j:Bool}:decide (V.bl i=V.bl j)=(i==j):=by
 rw[Bool.eq_iff_iff]
 simp
theorem lY_{i j:Str}:decide (V.str i=V.str j)=(i==j):=by
 rw[Bool.eq_iff_iff]
 simp
theorem ma_{i j:Array UInt8}:decide (V.byt i=V.byt j)=(i.toList==j.toList):=by
 rw[Bool.eq_iff_iff]
 cases i
 cases j
 simp
section
variable{X:Cx}{a b c:Expr}{ta tb tc:TE}{pos:Pos}
theorem B_{pins:List (Addr×Obj)}{σ:St}{H:Hp}{s:Shared}{Q:VK}{k k':Bool}(I:Inv X pins σ H s)(q:Q (.bl k) H)(e:k=k'):EP X pins σ Q (.bool k') s:=by
 subst e
 exact⟨.bl k,H,I,rfl,q⟩
theorem cn_:OpR X (compareOp .Eq) rEq:=by
 intro pins s σ H x y v u Q I rx ry h
 obtain⟨hs,q⟩:=h
 cases x with
 | non =>
  cases rx
  cases y with
  | non=>cases ry;exact PySem.EqNone.eq_none_none (B_ I q (by simp))
  | bl j=>cases ry;exact PySem.EqNone.eq_none_bool (B_ I q (by simp))
  | int j=>obtain⟨t',rfl⟩:=ry;exact PySem.EqNone.eq_none_int (B_ I q (by simp))
  | str j=>obtain⟨t',rfl⟩:=ry;exact PySem.EqNone.eq_none_str (B_ I q (by simp))
  | _=>exact absurd (show false=true from hs) Bool.false_ne_true
 | bl i =>
  cases rx
  cases y with
  | non=>cases ry;exact PySem.EqNone.eq_bool_none (B_ I q (by simp))
  | bl j=>cases ry;exact eq_bool (B_ I q os_)
  | str j=>obtain⟨t',rfl⟩:=ry;exact PySem.EqMixed.eq_bool_str (B_ I q (by simp))
  | _=>exact absurd (show false=true from hs) Bool.false_ne_true
 | int i =>
  obtain⟨t,rfl⟩:=rx
  cases y with
  | non=>cases ry;exact PySem.EqNone.eq_int_none (B_ I q (by simp))
  | int j=>obtain⟨t',rfl⟩:=ry;exact eq_int (B_ I q lZ_)
  | str j=>obtain⟨t',rfl⟩:=ry;exact PySem.EqMixed.eq_int_str (B_ I q (by simp))
  | _=>exact absurd (show false=true from hs) Bool.false_ne_true
 | str i =>
  obtain⟨t,rfl⟩:=rx
  cases y with
  | non=>cases ry;exact PySem.EqNone.eq_str_none (B_ I q (by simp))
  | bl j=>cases ry;exact PySem.EqMixed.eq_str_bool (B_ I q (by simp))
  | int j=>obtain⟨t',rfl⟩:=ry;exact PySem.EqMixed.eq_str_int (B_ I q (by simp))
  | str j=>obtain⟨t',rfl⟩:=ry;exact eq_str (B_ I q lY_)
  | _=>exact absurd (show false=true from hs) Bool.false_ne_true
 | byt i =>
  obtain⟨t,rfl⟩:=rx
  cases y with
  | byt j=>obtain⟨t',rfl⟩:=ry;exact PySem.W.eq_bytes (B_ I q ma_)
  | _=>exact absurd (show false=true from hs) Bool.false_ne_true
 | _=>cases y <;> exact absurd (show false=true from hs) Bool.false_ne_true
theorem mQ_:OpR X (compareOp .NotEq) rNe:=by
 intro pins s σ H x y v u Q I rx ry h
 obtain⟨hs,q⟩:=h
 cases x with
 | non =>
  cases rx
  cases y with
  | non=>cases ry;exact PySem.EqNone.ne_none_none (B_ I q (by simp))
  | bl j=>cases ry;exact PySem.EqNone.ne_none_bool (B_ I q (by simp))
  | int j=>obtain⟨t',rfl⟩:=ry;exact PySem.EqNone.ne_none_int (B_ I q (by simp))
  | str j=>obtain⟨t',rfl⟩:=ry;exact PySem.EqNone.ne_none_str (B_ I q (by simp))
  | _=>exact absurd (show false=true from hs) Bool.false_ne_true
 | bl i =>
  cases rx
  cases y with
  | non=>cases ry;exact PySem.EqNone.ne_bool_none (B_ I q (by simp))
  | bl j=>cases ry;exact ne_bool (B_ I q (congrArg not os_))
  | str j=>obtain⟨t',rfl⟩:=ry;exact PySem.EqMixed.ne_bool_str (B_ I q (by simp))
  | _=>exact absurd (show false=true from hs) Bool.false_ne_true
 | int i =>
  obtain⟨t,rfl⟩:=rx
  cases y with
  | non=>cases ry;exact PySem.EqNone.ne_int_none (B_ I q (by simp))
  | int j=>obtain⟨t',rfl⟩:=ry;exact ne_int (B_ I q (congrArg not lZ_))
  | str j=>obtain⟨t',rfl⟩:=ry;exact PySem.EqMixed.ne_int_str (B_ I q (by simp))
  | _=>exact absurd (show false=true from hs) Bool.false_ne_true
 | str i =>
  obtain⟨t,rfl⟩:=rx
  cases y with
  | non=>cases ry;exact PySem.EqNone.ne_str_none (B_ I q (by simp))
  | bl j=>cases ry;exact PySem.EqMixed.ne_str_bool (B_ I q (by simp))
  | int j=>obtain⟨t',rfl⟩:=ry;exact PySem.EqMixed.ne_str_int (B_ I q (by simp))
  | str j=>obtain⟨t',rfl⟩:=ry;exact ne_str (B_ I q (congrArg not lY_))
  | _=>exact absurd (show false=true from hs) Bool.false_ne_true
 | byt i =>
  obtain⟨t,rfl⟩:=rx
  cases y with
  | byt j=>obtain⟨t',rfl⟩:=ry;exact PySem.W.ne_bytes (B_ I q (congrArg not ma_))
  | _=>exact absurd (show false=true from hs) Bool.false_ne_true
 | _=>cases y <;> exact absurd (show false=true from hs) Bool.false_ne_true
theorem lb_:OpR X (compareOp .Lt) (rI0 fun i j=>.bl (decide (i<j))):=opB0 fun _ _ _ _ _ _ _ q=>lt_int q
theorem fU_:OpR X (compareOp .LtE) (rI0 fun i j=>.bl (decide (i<=j))):=opB0 fun _ _ _ _ _ _ _ q=>le_int q
theorem jr_:OpR X (compareOp .Gt) (rI0 fun i j=>.bl (decide (j<i))):=opB0 fun _ _ _ _ _ _ _ q=>gt_int q
theorem qC_:OpR X (compareOp .GtE) (rI0 fun i j=>.bl (decide (j<=i))):=opB0 fun _ _ _ _ _ _ _ q=>ge_int q
theorem iB_:OpR X (compareOp .Is) (fun x y H Q=>y=.non/\Q (.bl (decide (x=.non))) H):=by
 intro pins s σ H x y v u Q I rx ry h
 obtain⟨rfl,q⟩:=h
 cases ry
 refine is_none_gen (B_ I q ?_)
 cases x <;> first
  | (cases rx;rfl)
  | (obtain⟨t,rfl⟩:=rx;rfl)
theorem la_:OpR X (compareOp .IsNot) (fun x y H Q=>y=.non/\Q (.bl (!decide (x=.non))) H):=by
 intro pins s σ H x y v u Q I rx ry h
 obtain⟨rfl,q⟩:=h
 cases ry
 refine isnot_none_gen (B_ I q ?_)
 cases x <;> first
  | (cases rx;rfl)
  | (obtain⟨t,rfl⟩:=rx;rfl)
theorem nomark(b:Expr){op:CmpOp}(h:op≠.In:=by decide)(h2:op≠.NotIn:=by decide):behindInMarks op b=false:=by
 have e1:(op==CmpOp.In)=false:=by cases op <;> first | rfl | exact absurd rfl h
 have e2:(op==CmpOp.NotIn)=false:=by cases op <;> first | rfl | exact absurd rfl h2
 cases b <;> simp[behindInMarks,e1,e2]
theorem bU_{op:CmpOp}{r:R2}(ho:OpR X (compareOp op) r)(ha:PE X a ta)(hb:PE X b tb)(hm:behindInMarks op b=false):PE X (.Compare a [op] [b] pos) (tOp r ta tb):=by
 intro pins s σ H Q I h
 exact wpAny_Compare1 (binT ha hb I h fun v u s2 x y H2 I2 rx ry q=>ho pins s2 σ H2 x y v u Q I2 rx ry q) hm
def tTest(t:TE):TT:=fun σ H Q=>t σ H fun x H'=>∃k,x=.bl k/\Q k H'
theorem s_{op:CmpOp}{r:R2}(ho:OpR X (compareOp op) r)(ha:PE X a ta)(hb:PE X b tb)(hm:behindInMarks op b=false):PT X (.Compare a [op] [b] pos) (tTest (tOp r ta tb)):=by
 intro pins s σ H Q I h
 refine wpAny_isTrue_Compare1 (thn (ha pins s σ H _ I h) fun v s1 ⟨x,H1,I1,r1,q1⟩=>thn (hb pins s1 σ H1 _ I1 q1) fun u s2 ⟨y,H2,I2,r2,q2⟩ =>
  thn (ho pins s2 σ H2 x y v u _ I2 r1 r2 q2) fun c s3 ⟨z,H3,I3,r3,k,e,q3⟩=>?_) hm
 subst e
 cases r3
 exact wpAny_truthy_bool ⟨H3,I3,q3⟩
def nO_(r r':R2)(ta tb tc:TE):TE:=fun σ H Q=>ta σ H fun x H1=>tb σ H1 fun y H2=>r x y H2 fun z H3=>∃k,z=.bl k/\
 (if k=true then tc σ H3 fun w' H4=>r' y w' H4 Q else Q (.bl false) H3)
theorem iz_{op op':CmpOp}{r r':R2}(ho:OpR X (compareOp op) r)(ho':OpR X (compareOp op') r')(ha:PE X a ta)(hb:PE X b tb)(hc:PE X c tc)
  (hm:lastMarks [op,op'] [b,c]=false:=by with_unfolding_all rfl):PE X (.Compare a [op,op'] [b,c] pos) (nO_ r r' ta tb tc):=by
 intro pins s σ H Q I h
 refine Compare_chain (thn (ha pins s σ H _ I h) fun v s1 ⟨x,H1,I1,r1,q1⟩=>chain_link (thn (hb pins s1 σ H1 _ I1 q1) fun u s2 ⟨y,H2,I2,r2,q2⟩ =>
  thn (ho pins s2 σ H2 x y v u _ I2 r1 r2 q2) fun d s3 ⟨z,H3,I3,r3,k,e,q3⟩=>?_)) hm
 subst e
 cases r3
 refine wpAny_truthy_bool ?_
 cases k with
 | false=>exact ite_ff ⟨.bl false,H3,I3,rfl,q3⟩
 | true=>exact ite_tt (chain_last (thn (hc pins s3 σ H3 _ I3 q3) fun w' s4 ⟨z',H4,I4,r4,q4⟩=>ho' pins s4 σ H4 y z' u w' Q I4 r2 r4 q4))
theorem iw_{op op':CmpOp}{r r':R2}(ho:OpR X (compareOp op) r)(ho':OpR X (compareOp op') r')(ha:PE X a ta)(hb:PE X b tb)(hc:PE X c tc)
  (hm:lastMarks [op,op'] [b,c]=false:=by with_unfolding_all rfl):PT X (.Compare a [op,op'] [b,c] pos) (tTest (nO_ r r' ta tb tc)):=by
 intro pins s σ H Q I h
 refine isTrue_chain (thn (ha pins s σ H _ I h) fun v s1 ⟨x,H1,I1,r1,q1⟩=>test_link (thn (hb pins s1 σ H1 _ I1 q1) fun u s2 ⟨y,H2,I2,r2,q2⟩ =>
  thn (ho pins s2 σ H2 x y v u _ I2 r1 r2 q2) fun d s3 ⟨z,H3,I3,r3,k,e,q3⟩=>?_)) hm
 subst e
 cases r3
 refine wpAny_truthy_bool ?_
 cases k with
 | false =>
  obtain⟨k',e',q'⟩:=q3
  cases e'
  exact ite_ff ⟨H3,I3,q'⟩
 | true =>
  refine ite_tt (test_last (thn (hc pins s3 σ H3 _ I3 q3) fun w' s4 ⟨z',H4,I4,r4,q4⟩=>thn (ho' pins s4 σ H4 y z' u w' _ I4 r2 r4 q4) fun d' s5 ⟨z2,H5,I5,r5,k2,e2,q5⟩=>?_))
  subst e2
  cases r5
  exact wpAny_truthy_bool ⟨H5,I5,q5⟩
theorem line63:(sizeLine:Nat)<2 ^ 63:=by rw[sizeLine_eq];decide
theorem vals1{x:V}{us:List Value}(r:Vals [x] us):∃u,us=[u]/\RelV x u:=by
 cases r with
 | cons r1 r2=>cases r2;exact⟨_,rfl,r1⟩
theorem vals2{x y:V}{us:List Value}(r:Vals [x,y] us):∃u w',us=[u,w']/\RelV x u/\RelV y w':=by
 cases r with
 | cons r1 r2 =>
  cases r2 with
  | cons r3 r4=>cases r4;exact⟨_,_,rfl,r1,r3⟩
theorem gx_(hc:X.calm=true):CallR X (.builtin "max") (fun xs H Q=>∃i j,xs=[.int i,.int j]/\Q (.int (if j>i then j else i)) H):=by
 intro pins s σ H xs us Q I r h
 obtain⟨i,j,rfl,q⟩:=h
 obtain⟨u,w',rfl,⟨t,rfl⟩,⟨t',rfl⟩⟩:=vals2 r
 refine max_two_ints (I.ok.hd hc) fun h' tk k=>⟨_,H,I.kept k,?_,q⟩
 by_cases hj:j>i
 ·rw[if_pos hj,if_pos hj];exact⟨_,rfl⟩
 ·rw[if_neg hj,if_neg hj];exact⟨_,rfl⟩
theorem gw_(hc:X.calm=true):CallR X (.builtin "min") (fun xs H Q=>∃i j,xs=[.int i,.int j]/\Q (.int (if j<i then j else i)) H):=by
 intro pins s σ H xs us Q I r h
 obtain⟨i,j,rfl,q⟩:=h
 obtain⟨u,w',rfl,⟨t,rfl⟩,⟨t',rfl⟩⟩:=vals2 r
 refine min_two_ints (I.ok.hd hc) fun h' tk k=>⟨_,H,I.kept k,?_,q⟩
 by_cases hj:j<i
 ·rw[if_pos hj,if_pos hj];exact⟨_,rfl⟩
 ·rw[if_neg hj,if_neg hj];exact⟨_,rfl⟩
theorem cu_:CallR X (.type "int") (fun xs H Q=>(∃i,xs=[.int i]/\Q (.int i) H)\/∃k,xs=[.bl k]/\Q (.int (if k then 1 else 0)) H):=by
 intro pins s σ H xs us Q I r h
 rcases h with⟨i,rfl,q⟩ | ⟨k,rfl,q⟩
 ·obtain⟨u,rfl,t,rfl⟩:=vals1 r
  exact call_int_int ⟨.int i,H,I,⟨_,rfl⟩,q⟩
 ·obtain⟨u,rfl,r1⟩:=vals1 r
  cases r1
  exact call_int_bool ⟨.int (if k then 1 else 0),H,I.tok _,⟨_,rfl⟩,q⟩
end
structure ObjM(h:Heap)(x dx C:Addr)(mA:Str->Option Value):Prop where
 obj:h.get? x=some (PySem.W.instObj C dx)
 ns:h.Ns1 dx mA
 ne:dx≠x
theorem lu_{h:Heap}{dx:Addr}{mA:Str->Option Value}(n:h.Ns1 dx mA):∃od,h.get? dx=some od/\∀name,PySem.W.lookIn name od=some (mA name):=by
 obtain⟨o,es,ep,ho,hd,hk,_,hm⟩:=n
 refine⟨o,ho,fun name=>?_⟩
 have e:=hm name
 unfold nsFind findBy at e
 rw[<-Array.find?_toList] at e
 unfold PySem.W.lookIn
 rw[hd]
 dsimp only
 split
 ·rename_i y q
  rw[q] at e
  exact congrArg some e
 ·rename_i q
  rw[q] at e
  have a:es.toList.any (·.refKey)=false:=by
   rw[List.any_eq_false]
   intro y hy
   obtain⟨z,t,hkey⟩:=hk y (Array.mem_toList_iff.mp hy)
   simp[DictEntry.refKey,hkey]
  have a':¬ es.toList.any (·.refKey)=true:=by rw[a];exact Bool.false_ne_true
  rw[if_neg a']
  exact congrArg some e
theorem ObjM.look{h:Heap}{x dx C:Addr}{mA:Str->Option Value}(I:ObjM h x dx C mA):∃od,PySem.W.InstAt h x (PySem.W.instObj C dx) C (some od)/\∀name,PySem.W.lookIn name od=some (mA name) :=
 let ⟨od,ho,hl⟩:=lu_ I.ns
 ⟨od,⟨I.obj,rfl,rfl,ho⟩,hl⟩
section
variable{prog:Program}{w:World}{A:Around}{E:Value->Shared->Prop}{s:Shared}{K:PySem.W.Frag}{x dx C f:Addr}{mA:Str->Option Value}{name:Str}{v:Value}
theorem pD_{expr:Bool}{Q:Value->Shared->Prop}(X:K.In s.heap)(I:ObjM s.heap x dx C mA)(hg:PySem.W.plainGet K C name=true)(hh:PySem.W.hasDictIn K C=true)
  (ha:PySem.W.findIn K (.ref C) name=some none) (hv:mA name=some v) (hv':PySem.W.handedIn v=true) (h:Q v {s with toks:=s.toks+1}) :
  wpAny (model prog w) A (getAttr (.ref x) name expr) Q E s:=by
 obtain⟨od,J,hl⟩:=I.look
 exact PySem.W.get_value X J (PySem.W.plainGet_of hg).1 (PySem.W.findObj_own hh ha rfl (by rw[hl,hv])) hv' h
theorem no_{pl:Sem Bool}{Q:Value×List Value->Shared->Prop}(X:K.In s.heap)(I:ObjM s.heap x dx C mA)(hg:PySem.W.plainGet K C name=true)
  (hf:PySem.W.findIn K (.ref C) name=some (some (.ref f))) (ht:PySem.W.isFn K (.ref f)=true) (hv:mA name=none) (h:Q (.ref f,[.ref x]) s) :
  wpAny (model prog w) A (getMethod (.ref x) name pl) Q E s:=by
 obtain⟨od,J,hl⟩:=I.look
 exact PySem.W.method_fn X J (PySem.W.plainGet_of hg).1 (PySem.W.plainGet_of hg).2 hf (beq_iff_eq.mp ht) (by show(PySem.W.lookIn name od).map (·.isSome)=some false;rw[hl,hv];rfl) h
theorem oQ_{ns:List Str}{Q:Unit->Shared->Prop}(X:K.In s.heap)(I:ObjM s.heap x dx C mA)
  (hs:PySem.W.findIn K (.ref C) "__setattr__"=some (some (.builtin "object.__setattr__"))) (hp:PySem.W.plainOver K C=true) (ht:PySem.W.takerIn K C name=some none) (hh:PySem.W.hasDictIn K C=true)
  (hw:PySem.Within mA ns) (hsz:ns.length<=sizeLine)
  (h:∀h',ObjM h' x dx C (fun y=>if y=name then some v else mA y)->Heap.SameBut dx s.heap h'->Q () {s with heap:=h',toks:=s.toks+2}) :
  wpAny (model prog w) A (setAttr (.ref x) name v) Q E s:=by
 obtain⟨od,J,hl⟩:=I.look
 refine PySem.W.set_plain X J hs (PySem.W.osa_open (s:={s with toks:=s.toks+1}) (r:=none) X J hp ht fun b=>?_)
 obtain⟨cd,hc,hd'⟩:=PySem.W.any_some hh
 have hx:s.heap.get? x=some ⟨.ref C,some dx,.plain,#[]⟩:=I.obj
 refine wpAny_bind (wpAny_pure (wpAny_bind (wpAny_bind (wpAny_loadPart hx (wpAny_bind (PySem.W.Looks.here (s:={s with toks:=s.toks+1}) (PySem.W.looks_clsIn X hc) ?_))))))
 rw[hd']
 refine wpAny_pure (a:=some dx) (wpAny_bind (wpAny_pure (wpAny_bind ?_)))
 refine wpAny_nsSet1 (s:={s with toks:=s.toks+1}) I.ns fun h' hn2 hs2=>?_
 obtain⟨oD,esD,epD,hoD,hdD,hcD⟩:=hn2.count (PySem.Within.cons name v hw)
 refine wpAny_bind (wpAny_lookBehind hoD (by rw[hdD];exact pastItsLine_dict (Nat.le_trans hcD (by rw[List.length_cons];omega))) ?_)
 exact wpAny_pure (h _ ⟨(hs2.2 _ (Ne.symm I.ne)).trans I.obj,hn2,I.ne⟩ hs2)
theorem ng_{R:Result->Shared->Prop}{vs:List Value}{kw:List (Str×Value)}(X:K.In s.heap)(hm:PySem.W.makesIn K C=true)
  (hi:PySem.W.findIn K (.ref C) "__init__"=some (some (.ref f))) (hf:PySem.W.typeIn K (.ref f)=some (.type "function"))
  (h:codeAny (model prog w) (A.under (.builtin "type.__call__" ⟨.ref C::vs,kw⟩)) (.call (.ref f) ⟨.ref (s.heap.objs.size+1)::vs,kw⟩) (PySem.W.InitBack (s.heap.objs.size+1) R)
   {s with heap:=(s.heap.push PySem.W.emptyDict).push (PySem.W.instObj C s.heap.objs.size)}) :
  codeAny (model prog w) A (.call (.ref C) ⟨vs,kw⟩) R s:=by
 obtain⟨hh,g,d,t,os⟩:=s
 exact PySem.W.make_core (PySem.W.makes_of X hm) (PySem.W.looks_findIn X hi) (fun self=>PySem.W.bind_fn X self hf) (.inl rfl) h
end
def putF(f:Str)(v:V):List (Str×V)->List (Str×V)
 | []=>[(f,v)]
 | (g,x)::r=>if g=f then (g,v)::r else (g,x)::putF f v r
theorem aZ_(f g:Str)(v:V):∀fs:List (Str×V),(putF f v fs).lookup g=if g=f then some v else fs.lookup g
 | []=>by
  show List.lookup g [(f,v)]=_
  by_cases h:g=f
  ·have hb:(g==f)=true:=beq_iff_eq.mpr h
   simp only[List.lookup,hb,if_pos h]
  ·have hb:(g==f)=false:=beq_eq_false_iff_ne.mpr h
   simp only[List.lookup,hb,if_neg h]
 | (k,x)::r=>by
  have ih:=aZ_ f g v r
  rw[show putF f v ((k,x)::r)=(if k=f then (k,v)::r else (k,x)::putF f v r) from rfl]
  by_cases hk:k=f
  ·rw[if_pos hk]
   by_cases h:g=k
   ·have hb:(g==k)=true:=beq_iff_eq.mpr h
    simp only[List.lookup,hb,if_pos (h.trans hk)]
   ·have hb:(g==k)=false:=beq_eq_false_iff_ne.mpr h
    simp only[List.lookup,hb,if_neg (fun e:g=f=>h (e.trans hk.symm))]
  ·rw[if_neg hk]
   by_cases h:g=k
   ·have hb:(g==k)=true:=beq_iff_eq.mpr h
    simp only[List.lookup,hb,if_neg (fun e:g=f=>hk (h.symm.trans e))]
   ·have hb:(g==k)=false:=beq_eq_false_iff_ne.mpr h
    simp only[List.lookup,hb]
    exact ih
theorem dM_(f:Str)(v:V):∀fs:List (Str×V),f∈(putF f v fs).map (·.1)/\∀g,g∈fs.map (·.1)->g∈(putF f v fs).map (·.1)
 | []=>⟨by simp[putF],fun g h=>by simp at h⟩
 | (k,x)::r=>by
  obtain⟨i1,i2⟩:=dM_ f v r
  rw[show putF f v ((k,x)::r)=(if k=f then (k,v)::r else (k,x)::putF f v r) from rfl]
  by_cases hk:k=f
  ·rw[if_pos hk]
   subst hk
   exact⟨by simp,fun g h=>by simpa using h⟩
  ·rw[if_neg hk]
   refine⟨?_,fun g h=>?_⟩
   ·rw[List.map_cons]
    exact List.mem_cons_of_mem _ i1
   ·rw[List.map_cons] at h⊢
    rcases List.mem_cons.mp h with e | e
    ·exact List.mem_cons.mpr (.inl e)
    ·exact List.mem_cons_of_mem _ (i2 g e)
theorem dI_(f:Str)(v:V):∀fs:List (Str×V),(putF f v fs).length<=fs.length+1
 | []=>by simp[putF]
 | (k,x)::r=>by
  have ih:=dI_ f v r
  rw[show putF f v ((k,x)::r)=(if k=f then (k,v)::r else (k,x)::putF f v r) from rfl]
  by_cases hk:k=f
  ·rw[if_pos hk,List.length_cons,List.length_cons];omega
  ·rw[if_neg hk,List.length_cons,List.length_cons];omega
theorem RelO.some_of{v:V}{o:Option Value}(r:RelO (some v) o):∃u,o=some u/\RelV v u:=by
 cases o with
 | none=>exact(show False from r).elim
 | some u=>exact⟨u,rfl,r⟩
theorem RelO.none_of{o:Option Value}(r:RelO none o):o=none:=by
 cases o with
 | none=>rfl
 | some u=>exact(show False from r).elim
theorem lG_{v:V}{u:Value}(r:RelV v u):PySem.W.handedIn u=true:=by
 cases v with
 | non=>cases (show u=Value.none from r);rfl
 | bl b=>cases (show u=Value.bool b from r);rfl
 | int i=>obtain⟨t,e⟩:=(show ∃t,u=Value.int i t from r);cases e;rfl
 | str x=>obtain⟨t,e⟩:=(show ∃t,u=Value.str x t from r);cases e;rfl
 | byt b=>obtain⟨t,e⟩:=(show ∃t,u=Value.bytes b t from r);cases e;rfl
 | flt b=>obtain⟨t,e⟩:=(show ∃t,u=Value.float b t from r);cases e;rfl
 | ref a=>cases (show u=Value.ref a from r);rfl
 | ty n=>cases (show u=Value.type n from r);rfl
section
variable{P:Program}{w:World}{H H':Hp}{h h':Heap}{a C dx:Addr}{fs fs':List (Str×V)}
theorem fm_(hok:HOk P w H h)(e:H a=some (.ins C dx fs)):∃mA,ObjM h a dx C mA/\(∀f,RelO (fs.lookup f) (mA f))/\PySem.Within mA (fs.map (·.1))/\fs.length<=1000/\H dx=some (.own a):=by
 obtain⟨d,z,ne,ob,mA,n,r,q⟩:=(show ObjOk P w H h a (.ins C dx fs) from hok a _ e)
 exact⟨mA,⟨ob,n,ne⟩,r,q,z,d⟩
end
structure Cls(K:PySem.W.Frag)(C:Addr):Prop where
 pg:PySem.W.plainGet K C Str.empty=true
 hd:PySem.W.hasDictIn K C=true
 po:PySem.W.plainOver K C=true
 sa:PySem.W.findIn K (.ref C) "__setattr__"=some (some (.builtin "object.__setattr__"))
theorem Cls.get{K:PySem.W.Frag}{C:Addr}(c:Cls K C)(f:Str):PySem.W.plainGet K C f=true:=c.pg
def aF_(K:PySem.W.Frag)(C:Addr)(f:Str):Prop:=PySem.W.findIn K (.ref C) f=some none
theorem aF_.taker{K:PySem.W.Frag}{C:Addr}{f:Str}(n:aF_ K C f):PySem.W.takerIn K C f=some none:=by
 unfold PySem.W.takerIn
 rw[show PySem.W.findIn K (.ref C) f=some none from n]
 rfl
structure Meth(K:PySem.W.Frag)(C:Addr)(m:Str)(f:Addr):Prop where
 at_:PySem.W.findIn K (.ref C) m=some (some (.ref f))
 fn:PySem.W.isFn K (.ref f)=true
 kp:PySem.W.keepIn K (.ref f)=true
section
variable{X:Cx}{pins:List (Addr×Obj)}{σ:St}{H:Hp}{s:Shared}{a C dx:Addr}{fs:List (Str×V)}{f:Str}{v:V}{A:Around}{E:Value->Shared->Prop}
theorem jM_{b:Bool}{Q:Value->Shared->Prop}(I:Inv X pins σ H s)(e:H a=some (.ins C dx fs))(c:Cls X.K C)(n:aF_ X.K C f)(l:fs.lookup f=some v)
  (h:∀u s',Inv X pins σ H s'->RelV v u->Q u s'):wpAny (model X.prog X.w) A (getAttr (.ref a) f b) Q E s:=by
 obtain⟨mA,O,r,_,_,_⟩:=fm_ I.hok e
 obtain⟨u,hu,ru⟩:=RelO.some_of (v:=v) (o:=mA f) (by rw[<-l];exact r f)
 exact pD_ I.kIn O (c.get f) c.hd n hu (lG_ ru) (h u _ (I.tok _) ru)
theorem aP_{m:Str}{g:Addr}{pl:Sem Bool}{Q:Value×List Value->Shared->Prop}(I:Inv X pins σ H s)(e:H a=some (.ins C dx fs))(c:Cls X.K C)(k:Meth X.K C m g)(l:fs.lookup m=none)
  (h:Q (.ref g,[.ref a]) s):wpAny (model X.prog X.w) A (getMethod (.ref a) m pl) Q E s:=by
 obtain⟨mA,O,r,_,_,_⟩:=fm_ I.hok e
 have hn:mA m=none:=RelO.none_of (by rw[<-l];exact r m)
 exact no_ I.kIn O (c.get m) k.at_ k.fn hn h
theorem jk_{y:V}{u:Value}{Q:Unit->Shared->Prop}(I:Inv X pins σ H s)(e:H a=some (.ins C dx fs))(c:Cls X.K C)(n:aF_ X.K C f)(hl:fs.length<1000)(ry:RelV y u)
  (h:∀s',Inv X pins σ (upd H a (.ins C dx (putF f y fs))) s'->Q () s'):wpAny (model X.prog X.w) A (setAttr (.ref a) f u) Q E s:=by
 obtain⟨mA,O,r,wi,_,ho⟩:=fm_ I.hok e
 have hz:(fs.map (·.1)).length<=sizeLine:=by rw[List.length_map,sizeLine_eq];omega
 refine oQ_ I.kIn O c.sa c.po n.taker c.hd wi hz fun h' O' sb=>h _ ?_
 have hd:∃o,h'.get? dx=some o:=let ⟨o,_,_,e',_⟩:=O'.ns;⟨o,e'⟩
 refine I.write (x:=a) (e:=dx) (by rw[e];exact True.intro) (.inr ho) (fun b q hb z=>(sb.2 b hb).trans z) hd ?_
 refine⟨by rw[i_ O.ne];exact ho,?_,O.ne,O'.obj,_,O'.ns,fun g=>?_,fun g hg=>?_⟩
 ·have:=dI_ f y fs;omega
 ·show RelO ((putF f y fs).lookup g) (if g=f then some u else mA g)
  rw[aZ_]
  by_cases q:g=f
  ·rw[if_pos q,if_pos q];exact ry
  ·rw[if_neg q,if_neg q];exact r g
 ·by_cases q:g=f
  ·rw[q];exact(dM_ f y fs).1
  ·refine(dM_ f y fs).2 g (wi g fun z=>hg ?_)
   show(if g=f then some u else mA g)=none
   rw[if_neg q];exact z
theorem Inv.made(I:Inv X pins σ H s):Inv X pins σ (upd (upd H s.heap.objs.size (.own (s.heap.objs.size+1))) (s.heap.objs.size+1) (.ins C s.heap.objs.size []))
  {s with heap:=(s.heap.push PySem.W.emptyDict).push (PySem.W.instObj C s.heap.objs.size)}:=by
 have e1:(s.heap.push PySem.W.emptyDict).get? s.heap.objs.size=some PySem.W.emptyDict:=Heap.get?_push_size s.heap rfl
 have e2:((s.heap.push PySem.W.emptyDict).push (PySem.W.instObj C s.heap.objs.size)).get? (s.heap.objs.size+1)=some (PySem.W.instObj C s.heap.objs.size):=by
  have:=Heap.get?_push_size (s.heap.push PySem.W.emptyDict) (o:=PySem.W.instObj C s.heap.objs.size) rfl
  rwa [Heap.size_push] at this
 have e3:(s.heap.push PySem.W.emptyDict).Ns s.heap.objs.size (fun _=>none):=⟨PySem.W.emptyDict,#[],_,e1,rfl,(fun e he=>absurd he (by simp)),fun _=>rfl⟩
 have I1:=I.laid (a:=s.heap.objs.size) (o:=.own (s.heap.objs.size+1)) (h':=s.heap.push PySem.W.emptyDict) (t':=s.toks) (fun b u q=>Heap.get?_push_of_some _ q) (Nat.le_refl _) ⟨_,e1⟩
 refine I1.laid (a:=s.heap.objs.size+1) (o:=.ins C s.heap.objs.size []) (t':=s.toks) (fun b u q=>Heap.get?_push_of_some _ q) (Nat.le_of_eq (Heap.size_push _ _)) ?_
 have ne:s.heap.objs.size≠s.heap.objs.size+1:=Nat.ne_of_lt (Nat.lt_succ_self _)
 refine⟨by rw[i_ ne,d_],Nat.zero_le _,ne,e2,fun _=>none,(Heap.Ns1.of_empty e3).at fun o q=>Heap.get?_push_of_some _ q,fun _=>True.intro,fun y hy=>absurd rfl hy⟩
theorem pS_{prog:Program}{w:World}{env:Env}{e:Expr}{f:Str}{pos:Pos}{s:Shared}{Q:Value->Shared->Prop}(hb:attributeBase e f env (eval e env)=eval e env)
  (h:wpAny (model prog w) A (eval e env) (fun o s₁=>wpAny (model prog w) A (getAttr o f true) Q E s₁) E s):wpAny (model prog w) A (eval (.Attribute e f pos) env) Q E s :=
 Attribute_any_ h (by rw[arm_eval_Attribute,hb])
end
def tFld(K:PySem.W.Frag)(ta:TE)(f:Str):TE:=fun σ H Q=>ta σ H fun x H1=>∃a C dx fs v,x=.ref a/\H1 a=some (.ins C dx fs)/\Cls K C/\aF_ K C f/\fs.lookup f=some v/\Q v H1
def sFld(K:PySem.W.Frag)(ta tv:TE)(f:Str):TS:=fun D σ H=>tv σ H fun y H1=>ta σ H1 fun x H2=>∃a C dx fs,x=.ref a/\H2 a=some (.ins C dx fs)/\Cls K C/\aF_ K C f/\fs.length<1000/\
 D.nx σ (upd H2 a (.ins C dx (putF f y fs)))
section
variable{X:Cx}{o e value:Expr}{f:Str}{pos pos' tpos:Pos}{ta tv:TE}
theorem ck_(he:PE X e ta)(hb:attributeBase e f X.env (eval e X.env)=eval e X.env):PE X (.Attribute e f pos) (tFld X.K ta f):=by
 intro pins s σ H Q I h
 refine pS_ hb (thn (he pins s σ H _ I h) fun u s1 ⟨x,H1,I1,rx,a,C,dx,fs,v,ex,ea,c,n,l,q⟩=>?_)
 subst ex
 obtain rfl:u=Value.ref a:=rx
 exact jM_ I1 ea c n l fun u' s2 I2 ru=>⟨v,H1,I2,ru,q⟩
theorem qs_(ha:PE X o ta)(hv:PE X value tv)(hs:swapsWith value (some (.Attribute o f pos')) pos.line X.env=pure false):PS X (.Assign [.Attribute o f pos'] value pos) (sFld X.K ta tv f):=by
 intro pins s σ H D I h
 refine plainObj_wpAny_Assign_Attribute (thn (hv pins s σ H _ I h) fun u s1 ⟨y,H1,I1,ry,q⟩=>thn (ha pins s1 σ H1 _ I1 q) fun ov s2 ⟨x,H2,I2,rx,a,C,dx,fs,ex,ea,c,n,l,q2⟩=>?_) hs
 subst ex
 obtain rfl:ov=Value.ref a:=rx
 exact jk_ I2 ea c n l ry fun s3 I3=>⟨σ,_,I3,q2⟩
theorem methcall_of{pl:Sem Bool}{m:Str}{apos:Pos}{args:List Expr}{pins:List (Addr×Obj)}{s:Shared}{σ:St}{H:Hp}{Q:Value->Shared->Prop}{te:TE}(he:PE X e te)(I:Inv X pins σ H s)
  (h:te σ H fun x H1=>∃a C dx fs g,x=.ref a/\H1 a=some (.ins C dx fs)/\Cls X.K C/\Meth X.K C m g/\fs.lookup m=none/\
   ∀s1,Inv X pins σ H1 s1->wpAny (model X.prog X.w) X.A (callWith pos (.ref g) [.ref a] (backTo pos (starEach args X.env)) (backToKw pos (keywordEach [] X.env))) Q X.xe s1)
  (ht:eval (.Call (.Attribute e m apos) args [] pos) X.env=(do
   let ov <-eval e X.env
   standAt apos.atName
   let (f,first) <-holding [ov] (getMethod ov m pl)
   callWith pos f first (backTo pos (starEach args X.env)) (backToKw pos (keywordEach [] X.env)))) :
  wpAny (model X.prog X.w) X.A (eval (.Call (.Attribute e m apos) args [] pos) X.env) Q X.xe s:=by
 refine PySem.W.methodCall_KW (pl:=pl) (thn (he pins s σ H _ I h) fun u s1 ⟨x,H1,I1,rx,a,C,dx,fs,g,ex,ea,c,k,l,q⟩=>?_) ht
 subst ex
 obtain rfl:u=Value.ref a:=rx
 exact aP_ I1 ea c k l (q s1 I1)
end
section
variable{X:Cx}{pins:List (Addr×Obj)}{σ:St}{H:Hp}{s:Shared}{A:Around}{E:Value->Shared->Prop}{Q:Value->Shared->Prop}{c:Value}{b:Bool}
inductive TyOf(K:PySem.W.Frag)(H:Hp):V->Value->Prop where
 | non:TyOf K H .non (.type "NoneType")
 | bl (x:Bool):TyOf K H (.bl x) (.type "bool")
 | int (i:Int):TyOf K H (.int i) (.type "int")
 | str (x:Str):TyOf K H (.str x) (.type "str")
 | flt (x:UInt64):TyOf K H (.flt x) (.type "float")
 | lst {a:Addr} {xs:List V} (e:H a=some (.lst xs)):TyOf K H (.ref a) (.type "list")
 | frz {a:Addr} {o:Obj} {xs:List V} (e:H a=some (.frz o (.lst xs))):TyOf K H (.ref a) (.type "list")
 | tup {a:Addr} {xs:List V} (e:H a=some (.tup xs)):TyOf K H (.ref a) (.type "tuple")
 | dK {a:Addr} {kvs:List (Key×V)} (e:H a=some (.dK kvs)):TyOf K H (.ref a) (.type "dict")
 | dT {a:Addr} {kvs:List (List Key×V)} (e:H a=some (.dT kvs)):TyOf K H (.ref a) (.type "dict")
 | ins {a C dx:Addr} {fs:List (Str×V)} (e:H a=some (.ins C dx fs)) (cl:Cls K C) (ha:PySem.W.findIn K (.ref C) "__class__"=some (some (.builtin "object.__class__")))
   (hn:PySem.W.specialIn K (.builtin "object.__class__") "__get__"=some (some (.builtin "getset_descriptor.__get__"))) (htk:PySem.W.takesIn K (.builtin "object.__class__")=some true)
   (hm:PySem.W.mroIn K C (.type "object")=some true):TyOf K H (.ref a) (.ref C)
theorem lB_{x:V}{u t:Value}(I:Inv X pins σ H s)(rx:RelV x u)(ty:TyOf X.K H x t)(e:PySem.W.kitOne X.K t c=some b)(h:∀tk,Q (.bool b) {s with toks:=tk}) :
  wpAny (model X.prog X.w) A (call (.builtin "isinstance") [u,c]) Q E s:=by
 cases ty with
 | non=>cases (show u=Value.none from rx);exact PySem.W.kia_one PySem.W.kitx_none I.kIn True.intro e (fun z=>nomatch z) h
 | bl y=>cases (show u=Value.bool y from rx);exact PySem.W.kia_one PySem.W.kitx_bool I.kIn True.intro e (fun z=>nomatch z) h
 | int i=>obtain⟨t,q⟩:=(show ∃t,u=Value.int i t from rx);cases q;exact PySem.W.kia_one PySem.W.kitx_int I.kIn True.intro e (fun z=>nomatch z) h
 | str y=>obtain⟨t,q⟩:=(show ∃t,u=Value.str y t from rx);cases q;exact PySem.W.kia_one PySem.W.kitx_str I.kIn True.intro e (fun z=>nomatch z) h
 | flt y=>obtain⟨t,q⟩:=(show ∃t,u=Value.float y t from rx);cases q;exact PySem.W.kia_one PySem.W.kitx_float I.kIn True.intro e (fun z=>nomatch z) h
 | @lst a xs ea =>
  cases (show u=Value.ref a from rx)
  obtain⟨_,_,n,_,h1⟩:=(show ObjOk X.prog X.w H s.heap a (.lst xs) from I.hok a _ ea)
  exact PySem.W.kia_one PySem.W.kitx_list I.kIn ⟨_,h1,rfl⟩ e (fun z=>nomatch z) h
 | @frz a ob xs ea =>
  cases (show u=Value.ref a from rx)
  obtain⟨_,_,_,n,_,h1⟩:=(show ObjOk X.prog X.w H s.heap a (.frz ob (.lst xs)) from I.hok a _ ea)
  exact PySem.W.kia_one PySem.W.kitx_list I.kIn ⟨_,h1,rfl⟩ e (fun z=>nomatch z) h
 | @tup a xs ea =>
  cases (show u=Value.ref a from rx)
  obtain⟨_,_,_,p⟩:=(show ObjOk X.prog X.w H s.heap a (.tup xs) from I.hok a _ ea)
  obtain⟨o,h1,h2,_⟩:=p
  exact PySem.W.kia_one PySem.W.kitx_tuple I.kIn ⟨o,h1,h2⟩ e (fun z=>nomatch z) h
 | @dK a kvs ea =>
  cases (show u=Value.ref a from rx)
  obtain⟨_,_,vs,_,p⟩:=(show ObjOk X.prog X.w H s.heap a (.dK kvs) from I.hok a _ ea)
  obtain⟨o,es,ep,h1,h2,_⟩:=p
  exact PySem.W.kia_one PySem.W.kitx_dict I.kIn ⟨o,h1,h2.1⟩ e (fun z=>nomatch z) h
 | @dT a kvs ea =>
  cases (show u=Value.ref a from rx)
  obtain⟨_,_,xs,_,o,es,ep,h1,h2,_⟩:=(show ObjOk X.prog X.w H s.heap a (.dT kvs) from I.hok a _ ea)
  exact PySem.W.kia_one PySem.W.kitx_dict I.kIn ⟨o,h1,h2.1⟩ e (fun z=>nomatch z) h
 | @ins a C dx fs ea cl ha hn htk hm =>
  cases (show u=Value.ref a from rx)
  obtain⟨mA,O,_⟩:=fm_ I.hok ea
  obtain⟨od,J,_⟩:=O.look
  exact PySem.W.kia_one (PySem.W.kitx_own (cl.get _) cl.hd ha hn htk hm) I.kIn J e (fun z=>nomatch z) h
end
structure Room(k:Nat)(A:Around):Prop where
 hd:A.handled=none
 dp:A.depth+3*k+5<recursionLimit
 un:A.units+16*k+200<cLine
 gd:A.guards=some []
theorem Room.mono{j k:Nat}{A:Around}(r:Room k A)(h:j<=k):Room j A:=⟨r.hd,by have:=r.dp;omega,by have:=r.un;omega,r.gd⟩
theorem Room.mo{j k:Nat}{A:Around}(r:Room k A)(h:j<=k:=by decide):Room j A:=r.mono h
theorem Room.deeper{k:Nat}{A:Around}(r:Room (k+1) A)(env:Env):Room k (A.deeper env) :=
 ⟨r.hd,by have:=r.dp;show A.depth+1+3*k+5<_;omega,by have:=r.un;show A.units+3+16*k+200<_;omega,r.gd⟩
theorem jI_{A:Around}{C:Addr}{us:List Value}{kw:List (Str×Value)}:(A.under (.builtin "type.__call__" ⟨.ref C::us,kw⟩)).depth=A.depth+1:=by
 first | rfl | simp[Around.under,Code.weight,Code.isCreation,Code.isGuard,Code.isCaller,Code.frames,Code.isFrame,guardIds]
theorem jH_{A:Around}{C:Addr}{us:List Value}{kw:List (Str×Value)}:(A.under (.builtin "type.__call__" ⟨.ref C::us,kw⟩)).units=A.units+1:=by
 first | rfl | simp[Around.under,Code.cUnits,Code.frames,Code.isFrame]
theorem Room.make{k:Nat}{A:Around}(r:Room (k+1) A)(C:Addr)(us:List Value)(kw:List (Str×Value)):Room k (A.under (.builtin "type.__call__" ⟨.ref C::us,kw⟩)) :=
 ⟨r.hd,by have:=r.dp;rw[jI_];omega,by have:=r.un;rw[jH_];omega,by have:=r.gd;first | exact this | (simp[Around.under,Code.isGuard,guardIds];exact this)⟩
theorem Room.depth{k:Nat}{A:Around}(r:Room k A):A.depth<recursionLimit:=by have:=r.dp;omega
theorem Room.units{k:Nat}{A:Around}(r:Room k A):A.units+64<cLine:=by have:=r.un;omega
def tNil:TA:=fun _ H Q=>Q [] H
def tCons(ta:TE)(tr:TA):TA:=fun σ H Q=>ta σ H fun x H1=>tr σ H1 fun xs H2=>Q (x::xs) H2
section
variable{X:Cx}{e:Expr}{es:List Expr}{te:TE}{t:TA}{pos:Pos}
theorem c_:PA X [] tNil:=fun _ _ _ _ H Q I h=>Calls.spliced_nil ⟨[],H,I,.nil,h⟩
theorem a_(ha:PE X e te)(hr:PA X es t)(hs:starEach (e::es) X.env=(false,eval e X.env)::starEach es X.env:=by rfl):PA X (e::es) (tCons te t):=by
 intro pos pins s σ H Q I h
 rw[hs]
 show wpAny _ _ (spliced ((false,eval e X.env)::backTo pos (starEach es X.env))) _ _ s
 refine Calls.spliced_cons (thn (ha pins s σ H _ I h) fun u s1 ⟨x,H1,I1,r1,q1⟩=>?_)
 exact thn (hr pos pins s1 σ H1 _ I1 q1) fun us s2 ⟨xs,H2,I2,r2,q2⟩=>⟨x::xs,H2,I2,.cons r1 r2,q2⟩
def tTup(t:TA):TE:=fun σ H Q=>t σ H fun xs H1=>xs.length<=sizeLine/\∀p,H1 p=none->Q (.ref p) (upd H1 p (.tup xs))
def tLst(t:TA):TE:=fun σ H Q=>t σ H fun xs H1=>xs.length<=sizeLine/\∀p,H1 p=none->Q (.ref p) (upd H1 p (.lst xs))
theorem ac_{x1}(h:PA X es t):PE X (.Tuple es x1 pos) (tTup t):=by
 intro pins s σ H Q I hq
 refine wpAny_Tuple_spliced (thn (h pos pins s σ H _ I hq) fun us s1 ⟨xs,H1,I1,r,z,q⟩=>⟨by rw[<-r.length];exact z,?_⟩)
 have hf:H1 s1.heap.objs.size=none:=I1.hok.fresh (Nat.le_refl _)
 refine⟨.ref s1.heap.objs.size,upd H1 s1.heap.objs.size (.tup xs),I1.laid (t':=s1.toks) (fun b u e=>Heap.get?_push_of_some _ e) (Nat.le_refl _) ?_,rfl,q _ hf⟩
 exact⟨z,us,r,⟨_,Heap.get?_push_size _ rfl,rfl,_,rfl⟩⟩
theorem A_(h:PA X es t):PE X (.List es pos) (tLst t):=by
 intro pins s σ H Q I hq
 refine wpAny_List_spliced (thn (h pos pins s σ H _ I hq) fun us s1 ⟨xs,H1,I1,r,z,q⟩=>⟨by rw[<-r.length];exact z,?_⟩)
 have hf:H1 s1.heap.objs.size=none:=I1.hok.fresh (Nat.le_refl _)
 refine⟨.ref s1.heap.objs.size,upd H1 s1.heap.objs.size (.lst xs),I1.laid (t':=s1.toks) (fun b u e=>Heap.get?_push_of_some _ e) (Nat.le_refl _) ?_,rfl,q _ hf⟩
 exact⟨z,us,0,r,Heap.get?_push_size _ rfl⟩
end
abbrev Sp:=List V->Hp->VK->XK->Prop
abbrev CXT:=List Env->Hp->Shared->XK->Value->Shared->Prop
structure Env0(P:Program)(w:World)(K:PySem.W.Frag)(mg:Str->Option Value)(base:Heap)(A:Around)(outer:List Env)(s:Shared)(H:Hp):Prop where
 frames:A.frames=some outer
 mod:Mod K mg base
 bs:∀b o,base.get? b=some o->s.heap.get? b=some o/\H b=none
 bsz:base.objs.size<=s.heap.objs.size
 funs:s.heap.FunFrames base outer
 frf:∀b∈frs outer,H b=none
 hok:HOk P w H s.heap
 bare:AllBare s.gens
def CE(outer:List Env)(P:Program)(w:World)(H:Hp)(s:Shared)(Q:VK)(u:Value)(s':Shared):Prop :=
 ∃v H',s'.os=s.os/\AllBare s'.gens/\Un (frs outer) [] H H' s.heap s'.heap/\HOk P w H' s'.heap/\RelV v u/\Q v H'
def CR(CX:CXT)(outer:List Env)(P:Program)(w:World)(H:Hp)(s:Shared)(Q:VK)(E:XK)(r:Result)(s':Shared):Prop :=
 match r with
 | .ok (.ret u)=>CE outer P w H s Q u s'
 | .ok _=>False
 | .error e=>CX outer H s E e s'
structure FnOk(P:Program)(w:World)(K:PySem.W.Frag)(mg:Str->Option Value)(base:Heap)(CX:CXT)(k:Nat)(f:Addr)(fd:FuncData)(ps:List Str)(sp:Sp):Prop where
 len:∀vs H Q E,sp vs H Q E->vs.length=ps.length
 run:∀(A:Around) (outer:List Env) (s:Shared) (H:Hp) (args:Args) (us:List Value) (vs:List V) (Q:VK) (E:XK),Room k A->Env0 P w K mg base A outer s H->BindsTo s fd args (ps.zip us)->Vals vs us->sp vs H Q E->
  codeAny (model P w) A (.call (.ref f) args) (CR CX outer P w H s Q E) s
theorem FnOk.imp{P:Program}{w:World}{K:PySem.W.Frag}{mg:Str->Option Value}{base:Heap}{CX:CXT}{k:Nat}{f:Addr}{fd:FuncData}{ps:List Str}{sp sp':Sp}(F:FnOk P w K mg base CX k f fd ps sp)
  (h:∀vs H Q E,sp' vs H Q E->sp vs H Q E):FnOk P w K mg base CX k f fd ps sp' :=
 ⟨fun vs H Q E q=>F.len vs H Q E (h _ _ _ _ q),fun A outer s H args us vs Q E hr he hb hv hs=>F.run A outer s H args us vs Q E hr he hb hv (h _ _ _ _ hs)⟩
theorem Env0.make{P:Program}{w:World}{K:PySem.W.Frag}{mg:Str->Option Value}{base:Heap}{A:Around}{outer:List Env}{s:Shared}{H:Hp}(e:Env0 P w K mg base A outer s H)(C:Addr)(us:List Value)(kw:List (Str×Value)) :
  Env0 P w K mg base (A.under (.builtin "type.__call__" ⟨.ref C::us,kw⟩)) outer s H:=⟨by first | exact e.frames | (simpa [Around.under,Code.envs,Code.isFrame,pushEnvs] using e.frames),e.mod,e.bs,e.bsz,e.funs,e.frf,e.hok,e.bare⟩
section
variable{X:Cx}{pins:List (Addr×Obj)}{σ:St}{H:Hp}{s s':Shared}
theorem Inv.env0(I:Inv X pins σ H s):Env0 X.prog X.w X.K X.mg X.base X.A X.stack s H :=
 ⟨I.ok.frames,I.ok.mod,I.bs,Nat.le_trans I.ok.bsz I.sz,I.stack,I.stkFree,I.hok,I.bare⟩
theorem Inv.after{Q:VK}{u:Value}(I:Inv X pins σ H s)(h:CE X.stack X.prog X.w H s Q u s'):EP X pins σ Q u s':=by
 obtain⟨v,H',os,bare,un,hok,r,q⟩:=h
 obtain⟨hh,g,d,t,os'⟩:=s'
 obtain rfl:os'=s.os:=os
 exact⟨v,H',I.call (h':=hh) (g':=g) (d':=d) (t':=t) (ch:=[]) un hok bare (fun b z=>absurd z (by simp)),r,q⟩
end
def tCall(sp:Sp)(dvs:List V)(E:XK)(t:TA):TE:=fun σ H Q=>t σ H fun vs H1=>sp (vs++dvs) H1 Q E
def tMeth(C:Addr)(m:Str)(sp:Sp)(dvs:List V)(E:XK)(ta:TE)(t:TA):TE:=fun σ H Q=>ta σ H fun x H1=>∃a dx fs,x=.ref a/\H1 a=some (.ins C dx fs)/\fs.lookup m=none/\
 t σ H1 fun vs H2=>sp (x::(vs++dvs)) H2 Q E
def tMake(C:Addr)(sp:Sp)(dvs:List V)(E:XK)(t:TA):TE:=fun σ H Q=>t σ H fun vs H1=>∀x dx,H1 x=none->H1 dx=none->dx≠x->
 sp (.ref x::(vs++dvs)) (upd (upd H1 dx (.own x)) x (.ins C dx [])) (fun v H2=>v=.non/\Q (.ref x) H2) E
def Binds(K:PySem.W.Frag)(fd:FuncData)(ps:List Str)(ds:List Value):Prop :=
 ∀(s:Shared) (us:List Value),K.In s.heap->(us++ds).length=ps.length->BindsTo s fd ⟨us,[]⟩ (ps.zip (us++ds))
theorem Binds.all{K:PySem.W.Frag}{fd:FuncData}{ps:List Str}(h:∀us:List Value,us.length=ps.length->bindArgs fd ⟨us,[]⟩=pure (ps.zip us)):Binds K fd ps []:=fun s us _ hl=>by
 rw[List.append_nil] at hl⊢
 exact .of_eq (h us hl)
def Passes(CX:CXT)(X:Cx)(E:XK):Prop:=∀(pins:List (Addr×Obj)) (σ:St) (H:Hp) (s:Shared) (e:Value) (s':Shared),Inv X pins σ H s->CX X.stack H s E e s'->X.xe e s'
section
variable{X:Cx}{CX:CXT}{k:Nat}{f C:Addr}{fd:FuncData}{ps:List Str}{sp:Sp}{dvs:List V}{ds:List Value}{E:XK}{x m:Str}{p pos apos:Pos}{e o:Expr}{es:List Expr}{ta:TE}{t:TA}
theorem kN_{pins:List (Addr×Obj)}{σ:St}{H:Hp}{s:Shared}{Q:VK}{us:List Value}{vs:List V}(F:FnOk X.prog X.w X.K X.mg X.base CX k f fd ps sp)(hr:Room k X.A)(hb:Binds X.K fd ps ds)(hd:Vals dvs ds)(hx:Passes CX X E)
  (I:Inv X pins σ H s) (r:Vals vs us) (h:sp (vs++dvs) H Q E):wpAny (model X.prog X.w) X.A (call (.ref f) us) (EP X pins σ Q) X.xe s:=by
 have r2:Vals (vs++dvs) (us++ds):=r.append hd
 have hl:(us++ds).length=ps.length:=by rw[<-r2.length];exact F.len _ _ _ _ h
 refine wpAny_call (codeAny_mono (F.run X.A X.stack s H ⟨us,[]⟩ (us++ds) (vs++dvs) Q E hr I.env0 (hb s us I.kIn hl) r2 h) fun r s' hq=>?_)
 cases r with
 | error e=>exact hx pins σ H s e s' I hq
 | ok fl =>
  cases fl with
  | ret u=>exact I.after hq
  | next=>exact False.elim hq
  | brk=>exact False.elim hq
  | cont=>exact False.elim hq
theorem kY_(F:FnOk X.prog X.w X.K X.mg X.base CX k f fd ps sp)(hr:Room k X.A)(hg:Gl X x)(hm:X.mg x=some (.ref f))(hk:PySem.W.keepIn X.K (.ref f)=true)(hb:Binds X.K fd ps ds)(hd:Vals dvs ds)(hx:Passes CX X E)
  (ha:PA X (e::es) t) (hdb:(x==("__debug__":Str))=false:=by decide) (he:starEach (e::es) X.env=(false,eval e X.env)::starEach es X.env:=by rfl) (hpl:(backTo pos (starEach es X.env)).any (·.1)=false:=by rfl) :
  PE X (.Call (.Name x p) (e::es) [] pos) (tCall sp dvs E t):=by
 intro pins s σ H Q I h
 refine wpAny_Call_Name_kw (dJ_ I hg hm ?_ hdb)
 refine PySem.W.callWith_K (h₀:=X.base) I.ok.mod.kin hk (thn (ha pos pins s σ H _ I h) fun us s1 ⟨vs,H1,I1,r,q⟩=>⟨I1.kIn,?_⟩) he hpl
 exact kN_ F hr hb hd hx I1 r q
theorem pb_{pl:Sem Bool}(he:PE X o ta)(c:Cls X.K C)(hm:Meth X.K C m f)(F:FnOk X.prog X.w X.K X.mg X.base CX k f fd ps sp)(hr:Room k X.A)(hb:Binds X.K fd ps ds)(hd:Vals dvs ds)(hx:Passes CX X E)(ha:PA X (e::es) t)
  (hst:starEach (e::es) X.env=(false,eval e X.env)::starEach es X.env:=by rfl) (hpl:(backTo pos (starEach es X.env)).any (·.1)=false:=by rfl)
  (ht:eval (.Call (.Attribute o m apos) (e::es) [] pos) X.env=(do
   let ov <-eval o X.env
   standAt apos.atName
   let (f,first) <-holding [ov] (getMethod ov m pl)
   callWith pos f first (backTo pos (starEach (e::es) X.env)) (backToKw pos (keywordEach [] X.env))):=by rfl) :
  PE X (.Call (.Attribute o m apos) (e::es) [] pos) (tMeth C m sp dvs E ta t):=by
 intro pins s σ H Q I h
 refine PySem.W.methodCall_KW (pl:=pl) (thn (he pins s σ H _ I h) fun u s1 ⟨x,H1,I1,rx,a,dx,fs,ex,ea,l,q⟩=>?_) ht
 subst ex
 obtain rfl:u=Value.ref a:=rx
 refine aP_ I1 ea c hm l ?_
 refine PySem.W.callWith_K (first:=[.ref a]) (h₀:=X.base) I.ok.mod.kin hm.kp (thn (ha pos pins s1 σ H1 _ I1 q) fun us s2 ⟨vs,H2,I2,r,q2⟩=>⟨I2.kIn,?_⟩) hst hpl
 exact kN_ (us:=.ref a::us) (vs:=.ref a::vs) F hr hb hd hx I2 (.cons rfl r) q2
theorem mP_{pl:Sem Bool}(he:PE X o ta)(c:Cls X.K C)(hm:Meth X.K C m f)(F:FnOk X.prog X.w X.K X.mg X.base CX k f fd ps sp)(hr:Room k X.A)(hb:Binds X.K fd ps ds)(hd:Vals dvs ds)(hx:Passes CX X E)
  (ht:eval (.Call (.Attribute o m apos) [] [] pos) X.env=(do
   let ov <-eval o X.env
   standAt apos.atName
   let (f,first) <-holding [ov] (getMethod ov m pl)
   callWith pos f first (backTo pos (starEach [] X.env)) (backToKw pos (keywordEach [] X.env))):=by rfl) :
  PE X (.Call (.Attribute o m apos) [] [] pos) (tMeth C m sp dvs E ta tNil):=by
 intro pins s σ H Q I h
 refine PySem.W.methodCall_KW (pl:=pl) (thn (he pins s σ H _ I h) fun u s1 ⟨x,H1,I1,rx,a,dx,fs,ex,ea,l,q⟩=>?_) ht
 subst ex
 obtain rfl:u=Value.ref a:=rx
 refine aP_ I1 ea c hm l ?_
 exact PySem.W.callWith_K0 (first:=[.ref a]) I1.kIn hm.kp (kN_ (us:=[.ref a]) (vs:=[.ref a]) F hr hb hd hx I1 (.cons rfl .nil) q)
structure Mk(K:PySem.W.Frag)(C f:Addr):Prop where
 makes:PySem.W.makesIn K C=true
 init:PySem.W.findIn K (.ref C) "__init__"=some (some (.ref f))
 fn:PySem.W.isFn K (.ref f)=true
 kp:PySem.W.keepIn K (.ref C)=true
theorem mG_{pins:List (Addr×Obj)}{σ:St}{H:Hp}{s:Shared}{Q:VK}{us:List Value}{vs:List V}(M:Mk X.K C f)(F:FnOk X.prog X.w X.K X.mg X.base CX k f fd ps sp)(hr:Room (k+1) X.A)(hb:Binds X.K fd ps ds)(hd:Vals dvs ds)
  (hx:Passes CX X E) (I:Inv X pins σ H s) (r:Vals vs us)
  (h:∀x dx,H x=none->H dx=none->dx≠x->sp (.ref x::(vs++dvs)) (upd (upd H dx (.own x)) x (.ins C dx [])) (fun v H2=>v=.non/\Q (.ref x) H2) E) :
  wpAny (model X.prog X.w) X.A (call (.ref C) us) (EP X pins σ Q) X.xe s:=by
 have hq:=h (s.heap.objs.size+1) s.heap.objs.size (I.hok.fresh (Nat.le_succ _)) (I.hok.fresh (Nat.le_refl _)) (Nat.ne_of_lt (Nat.lt_succ_self _))
 have I2:=Inv.made (C:=C) I
 have r2:Vals (V.ref (s.heap.objs.size+1)::(vs++dvs)) (Value.ref (s.heap.objs.size+1)::(us++ds)):=.cons rfl (r.append hd)
 have hl:(Value.ref (s.heap.objs.size+1)::us++ds).length=ps.length:=by
  have e:=r2.length
  rw[F.len _ _ _ _ hq] at e
  exact e.symm
 refine wpAny_call (ng_ (f:=f) I.kIn M.makes M.init (beq_iff_eq.mp M.fn) (codeAny_mono (F.run _ X.stack _ _ ⟨Value.ref (s.heap.objs.size+1)::us,[]⟩ (Value.ref (s.heap.objs.size+1)::(us++ds)) _ _ E (hr.make C us [])
  (I2.env0.make C us []) (hb _ (Value.ref (s.heap.objs.size+1)::us) I2.kIn hl) r2 hq) fun r s' hq'=>?_))
 cases r with
 | error e=>exact hx pins σ _ _ e s' I2 hq'
 | ok fl =>
  cases fl with
  | ret u =>
   obtain⟨v,H',I3,rv,ev,q3⟩:=I2.after hq'
   subst ev
   exact⟨rv,⟨V.ref (s.heap.objs.size+1),H',I3,rfl,q3⟩⟩
  | next=>exact False.elim hq'
  | brk=>exact False.elim hq'
  | cont=>exact False.elim hq'
theorem pc_(M:Mk X.K C f)(F:FnOk X.prog X.w X.K X.mg X.base CX k f fd ps sp)(hr:Room (k+1) X.A)(hg:Gl X x)(hm:X.mg x=some (.ref C))(hb:Binds X.K fd ps ds)(hd:Vals dvs ds)(hx:Passes CX X E)
  (ha:PA X (e::es) t) (hdb:(x==("__debug__":Str))=false:=by decide) (he:starEach (e::es) X.env=(false,eval e X.env)::starEach es X.env:=by rfl) (hpl:(backTo pos (starEach es X.env)).any (·.1)=false:=by rfl) :
  PE X (.Call (.Name x p) (e::es) [] pos) (tMake C sp dvs E t):=by
 intro pins s σ H Q I h
 refine wpAny_Call_Name_kw (dJ_ I hg hm ?_ hdb)
 refine PySem.W.callWith_K (h₀:=X.base) I.ok.mod.kin M.kp (thn (ha pos pins s σ H _ I h) fun us s1 ⟨vs,H1,I1,r,q⟩=>⟨I1.kIn,?_⟩) he hpl
 exact mG_ M F hr hb hd hx I1 r q
end
section
variable{X:Cx}{CX:CXT}{k:Nat}{f C:Addr}{fd:FuncData}{ps ks:List Str}{sp:Sp}{E:XK}{x m:Str}{p pos apos kpos:Pos}{e o:Expr}{es:List Expr}{kws:List Keyword}{te ta:TE}{t tk:TA}{nm:Option Str}
variable{g:List Value->List Value->List Value}{gV:List V->List V->List V}
end
structure FnScope(N P:List Str)(sc:Scope):Prop where
 kind:sc.kind=.function
 co:sc.isCoroutine=false
 gen:sc.isGenerator=false
 nd:N.Nodup
 pre:N.take P.length=P
 par:∀x∈P,sc.names.lookup x=some .local\/sc.names.lookup x=some .cell
 nofree:∀y∈sc.names,y.2≠.free
theorem gA_{kindOf:Str->Option NameKind}{x:Str}:∀ {binds:List (Str×Value)} {m:Str->Option Value},(∀v,(x,v)∉binds)->bindL kindOf binds m x=m x
 | [],_,_=>rfl
 | (n,v)::r,m,h=>by
  unfold bindL
  rw[gA_ fun w hw=>h w (List.mem_cons_of_mem _ hw)]
  split
  ·have:x≠n:=by rintro rfl;exact h v List.mem_cons_self
   simp[this]
  ·rfl
theorem gC_{kindOf:Str->Option NameKind}{x:Str}:∀ {binds:List (Str×Value)} {m:Str->Option Value},(∀v,(x,v)∉binds)->bindC kindOf binds m x=m x
 | [],_,_=>rfl
 | (n,v)::r,m,h=>by
  unfold bindC
  rw[gC_ fun w hw=>h w (List.mem_cons_of_mem _ hw)]
  split
  ·rfl
  ·have:x≠n:=by rintro rfl;exact h v List.mem_cons_self
   simp[this]
theorem gB_{kindOf:Str->Option NameKind}{x:Str}{v:Value}:∀ {P:List Str} {vs:List Value} {i:Nat} {m:Str->Option Value},P.Nodup->P[i]?=some x->vs[i]?=some v->kindOf x=some .local->
  bindL kindOf (P.zip vs) m x=some v
 | [],_,_,_,_,h,_,_=>by simp at h
 | _::_,[],_,_,_,_,h,_=>by simp at h
 | p::P,w::vs,0,m,nd,h1,h2,hk=>by
  simp at h1 h2;subst h1;subst h2
  show bindL kindOf ((p,w)::P.zip vs) m p=_
  unfold bindL
  rw[gA_ fun v hv=>(List.nodup_cons.mp nd).1 (List.of_mem_zip hv).1,if_pos hk]
  simp
 | p::P,w::vs,i+1,m,nd,h1,h2,hk=>by
  show bindL kindOf ((p,w)::P.zip vs) m x=_
  unfold bindL
  exact gB_ (i:=i) (List.nodup_cons.mp nd).2 (by simpa using h1) (by simpa using h2) hk
theorem gD_{kindOf:Str->Option NameKind}{x:Str}{v:Value}:∀ {P:List Str} {vs:List Value} {i:Nat} {m:Str->Option Value},P.Nodup->P[i]?=some x->vs[i]?=some v->kindOf x≠some .local->
  bindC kindOf (P.zip vs) m x=some v
 | [],_,_,_,_,h,_,_=>by simp at h
 | _::_,[],_,_,_,_,h,_=>by simp at h
 | p::P,w::vs,0,m,nd,h1,h2,hk=>by
  simp at h1 h2;subst h1;subst h2
  show bindC kindOf ((p,w)::P.zip vs) m p=_
  unfold bindC
  rw[gC_ fun v hv=>(List.nodup_cons.mp nd).1 (List.of_mem_zip hv).1,if_neg hk]
  simp
 | p::P,w::vs,i+1,m,nd,h1,h2,hk=>by
  show bindC kindOf ((p,w)::P.zip vs) m x=_
  unfold bindC
  exact gD_ (i:=i) (List.nodup_cons.mp nd).2 (by simpa using h1) (by simpa using h2) hk
def start(N:List Str)(vs:List V):St:=vs.map some++List.replicate (N.length-vs.length) none
def cxOf(CX:CXT)(P:Program)(w:World)(K:PySem.W.Frag)(mg:Str->Option Value)(base:Heap)(N:List Str)(qual:Str)(scope:Scope)(f:Addr)(cd:Value)(A:Around)(outer:List Env)(s:Shared)(H:Hp)(E:XK):Cx where
 prog:=P
 w:=w
 K:=K
 mg:=mg
 base:=base
 A:=A.deeper (envOfC qual scope s.heap.objs.size f cd)
 N:=N
 s₀:=s
 H₀:=H
 env:=envOfC qual scope s.heap.objs.size f cd
 outer:=outer
 stack:=envOfC qual scope s.heap.objs.size f cd::outer
 ex:=[]
 calm:=true
 fn:=fun _=>true
 pn:=[]
 xe:=fun e s'=>wpAny (model P w) (A.deeper (envOfC qual scope s.heap.objs.size f cd)) (leaving (envOfC qual scope s.heap.objs.size f cd) e) (fun _ s''=>CX outer H s E e s'') (fun e' s''=>CX outer H s E e' s'') s'
theorem jf_{sc:Scope}{n:Nat}{x:Str}(h:sc.names.lookup x=some .cell):∃c,(cellsFrom n sc.names []).lookup x=some c:=by
 have q:=PySem.W.cellsFrom_some sc.names n [] (.inl h)
 exact Option.isSome_iff_exists.mp q
theorem lD_{CX:CXT}{P:Program}{w:World}{K:PySem.W.Frag}{mg:Str->Option Value}{base:Heap}{N ps:List Str}{qual:Str}{scope:Scope}{f:Addr}{cd:Value}{A:Around}{outer:List Env}{s s1:Shared}{H:Hp}{E:XK}{us:List Value}{vs:List V}
  (S:FnScope N ps scope) (hd:A.handled=none) (e0:Env0 P w K mg base A outer s H) (hl:vs.length=ps.length) (r:Vals vs us)
  (x:InCallC s s.heap.objs.size (bindL (envOfC qual scope s.heap.objs.size f cd).kindOf (ps.zip us) fun _=>none) (cellsFrom (s.heap.objs.size+1) scope.names []) (bindC (envOfC qual scope s.heap.objs.size f cd).kindOf (ps.zip us) fun _=>none) s1) :
  Inv (cxOf CX P w K mg base N qual scope f cd A outer s H E) [] (start N vs) H s1:=by
 have hpl:ps.length<=N.length:=by have:=congrArg List.length S.pre;rw[List.length_take] at this;omega
 obtain⟨h1,tk,rfl,hk⟩:=x.done
 have noA:∀b:Addr,b∉(cxOf CX P w K mg base N qual scope f cd A outer s H E).ex:=fun b z=>absurd (show b∈([]:List Addr) from z) (by simp)
 refine⟨⟨e0.mod,S.kind,rfl,rfl,Nat.le_refl _,fun y z c h1 h2=>?_,fun y hy=>?_,fun y c _ h=>?_,fun _=>hd,Around.frames_deeper e0.frames,.inr ⟨rfl,rfl⟩,fun b z=>absurd z (noA b),e0.bs,e0.bsz,fun b _ _=>noA b,fun b z=>absurd z (noA b),e0.funs,e0.frf⟩,
  rfl,e0.bare,Un.kept hk,⟨_,x.toInCall.ns,fun i y v h1 h2 h3=>?_⟩,fun y c h=>⟨_,x.cell y c h⟩,e0.hok.fresh (Nat.le_refl _),fun y c h=>?_,fun p hp=>absurd (show p∈([]:List (Addr×Obj)) from hp) (by simp),e0.hok.kept hk,?_⟩
 ·exact name_of_addr x.apart (PySem.mem_of_lookup h1) (PySem.mem_of_lookup h2)
 ·have hy:scope.names.lookup y=some .cell\/scope.names.lookup y=some .free:=hy
  rcases hy with hy | hy
  ·exact jf_ hy
  ·exact absurd rfl (S.nofree _ (PySem.mem_of_lookup hy))
 ·exact Nat.le_of_lt (x.above y c (PySem.mem_of_lookup h))
 ·have hi:i<vs.length:=by
   unfold start at h2
   by_cases hi:i<vs.length
   ·exact hi
   ·rw[List.getElem?_append_right (by simpa using hi)] at h2
    rw[List.getElem?_replicate] at h2
    split at h2 <;> cases h2
  have ha:vs[i]?=some v:=by
   unfold start at h2
   rw[List.getElem?_append_left (by simpa using hi),List.getElem?_map] at h2
   cases e:vs[i]? with
   | none=>rw[e] at h2;cases h2
   | some a=>rw[e] at h2;cases h2;rfl
  obtain⟨u,hu,rv⟩:=r.get ha
  have hp:ps[i]?=some y:=by
   rw[<-S.pre,List.getElem?_take_of_lt (by omega)];exact h1
  have ndP:ps.Nodup:=by rw[<-S.pre];exact S.nd.sublist (List.take_sublist _ _)
  refine⟨u,rv,?_⟩
  rcases S.par y (List.mem_of_getElem? hp) with k | k
  ·exact .inl ⟨k,gB_ ndP hp hu k⟩
  ·obtain⟨c,e⟩:=jf_ (n:=s.heap.objs.size+1) k
   refine .inr ⟨.inl k,c,e,?_⟩
   have q:=x.cell y c e
   rw[gD_ ndP hp hu (by show scope.names.lookup y≠_;rw[k];decide)] at q
   exact q
 ·exact e0.hok.fresh (Nat.le_of_lt (x.above y c (PySem.mem_of_lookup h)))
 ·unfold start
  show _=N.length
  rw[List.length_append,List.length_map,List.length_replicate]
  omega
theorem re_{CX:CXT}{P:Program}{w:World}{K:PySem.W.Frag}{mg:Str->Option Value}{base:Heap}{k:Nat}{f:Addr}{name qual:Str}{params:Arguments}{body:List Stmt}{scope:Scope}{dV kV doc pm cdv ct oc:Value}{an od:Option Addr}
  {osl:Array (Option Value)} {N ps:List Str} {sp:Sp} (lk:K.lookup f=some ⟨oc,od,.func (PySem.W.fnOf name qual params body scope dV kV doc pm an cdv ct),osl⟩) (hcd:PySem.W.codeIn K cdv qual=true) (S:FnScope N ps scope)
  (len:∀vs H Q E,sp vs H Q E->vs.length=ps.length)
  (hbody:∀(A:Around) (outer:List Env) (s:Shared) (H:Hp) (vs:List V) (Q:VK) (E:XK),Room k (A.deeper (envOfC qual scope s.heap.objs.size f cdv))->sp vs H Q E->
   ∃t,PSs (cxOf CX P w K mg base N qual scope f cdv A outer s H E) body t/\t {nx:=fun _ H'=>Q .non H',rt:=Q} (start N vs) H) :
  FnOk P w K mg base CX (k+1) f (PySem.W.fnOf name qual params body scope dV kV doc pm an cdv ct) ps sp:=by
 refine⟨len,fun A outer s H args us vs Q E hr e0 hb r hsp=>?_⟩
 have hl:=len _ _ _ _ hsp
 have KX:K.In s.heap:=e0.mod.kin.keeps fun b o e=>(e0.bs b o e).1
 have lim:s.heap.NoLimit:=e0.mod.nolimit.keeps fun b o e=>(e0.bs b o e).1
 have hkind:∀y∈ps.zip us,scope.names.lookup y.1=some .local\/(scope.names.lookup y.1=some .cell/\((cellsFrom (s.heap.objs.size+1) scope.names []).lookup y.1).isSome=true):=fun⟨n,v⟩ hy=>by
  rcases S.par n (List.of_mem_zip hy).1 with q | q
  ·exact .inl q
  ·exact .inr ⟨q,PySem.W.cellsFrom_some _ _ _ (.inl q)⟩
 refine codeAny_call_function hr.depth (KX _ _ lk) rfl S.co S.gen rfl (PySem.W.codeRec_of KX hcd) (hb _ _ _ _ ?_)
 refine wpAny_newFunctionEnv_cells S.kind hkind fun env he s1 x=>?_
 subst he
 refine⟨lim.keeps x.toInCall.keep,codeAny_func ?_⟩
 obtain⟨t,ht,hq⟩:=hbody A outer s H vs Q E (hr.deeper _) hsp
 have I:Inv (cxOf CX P w K mg base N qual scope f cdv A outer s H E) [] (start N vs) H s1:=lD_ S hr.hd e0 hl r x
 refine wpAny_mono (ht [] s1 (start N vs) H _ I hq) (fun fl s' hs=>?_) fun e s' hs=>hs
 have fin:∀ {σ':St} {H':Hp} {v:V} {u:Value},Inv (cxOf CX P w K mg base N qual scope f cdv A outer s H E) [] σ' H' s'->RelV v u->Q v H'->CE outer P w H s Q u s' :=
  fun {σ' H' v u} J rv q=>⟨v,H',J.os,J.bare,J.base,J.hok,rv,q⟩
 cases fl with
 | ret u =>
  obtain⟨v,σ',H',J,rv,q⟩:=hs
  exact fin J rv q
 | next =>
  obtain⟨σ',H',J,q⟩:=hs
  exact fin (v:=V.non) (u:=Value.none) J rfl q
 | brk =>
  obtain⟨_,_,_,q⟩:=hs
  exact False.elim q
 | cont =>
  obtain⟨_,_,_,q⟩:=hs
  exact False.elim q
section
variable{X:Cx}{x:Str}{p pos:Pos}{e:Expr}{es:List Expr}{t:TA}{id T:String}{r:List V->Hp->VK->Prop}
def tCB(r:List V->Hp->VK->Prop)(t:TA):TE:=fun σ H Q=>t σ H fun vs H1=>r vs H1 Q
theorem o_(hc:CallR X (.builtin id) r)(hg:Gl X x)(hm:X.mg x=none)(hv:bootBuiltins x=some (.builtin id))(ha:PA X (e::es) t)(hn:x≠"__name__":=by decide)(hdb:(x==("__debug__":Str))=false:=by decide)
  (he:starEach (e::es) X.env=(false,eval e X.env)::starEach es X.env:=by rfl) (hpl:(backTo pos (starEach es X.env)).any (·.1)=false:=by rfl):PE X (.Call (.Name x p) (e::es) [] pos) (tCB r t):=by
 intro pins s σ H Q I h
 refine wpAny_Call_Name_kw (bJ_ I hg hm hv ?_ hn hdb)
 exact PyProof.Rows.callWith_builtin1 (thn (ha pos pins s σ H _ I h) fun us s1 ⟨vs,H1,I1,r1,q1⟩=>hc pins s1 σ H1 vs us Q I1 r1 q1) he hpl
theorem R_(hc:CallR X (.type T) r)(hg:Gl X x)(hm:X.mg x=none)(hv:bootBuiltins x=some (.type T))(ha:PA X (e::es) t)(hn:x≠"__name__":=by decide)(hdb:(x==("__debug__":Str))=false:=by decide)
  (he:starEach (e::es) X.env=(false,eval e X.env)::starEach es X.env:=by rfl) (hpl:(backTo pos (starEach es X.env)).any (·.1)=false:=by rfl):PE X (.Call (.Name x p) (e::es) [] pos) (tCB r t):=by
 intro pins s σ H Q I h
 refine wpAny_Call_Name_kw (bJ_ I hg hm hv ?_ hn hdb)
 exact PyProof.Rows.callWith_type1 (thn (ha pos pins s σ H _ I h) fun us s1 ⟨vs,H1,I1,r1,q1⟩=>hc pins s1 σ H1 vs us Q I1 r1 q1) he hpl
end
end L2
namespace HT
open PySem PyProof.Rows
section
open PySem.SeqAt
open PySem.AutoSeq1 (wpAny_loadPart')
open PySem.MeetsSeq PySem.MeetsSeq2 PySem.MeetsSeq3
end
section
variable{prog:Program}{w:World}{A:Around}{E:Value->Shared->Prop}{s:Shared}
def sIx(n d:Nat):Option Int->Nat
 | none=>d
 | some v=>if v<0 then (v+(n:Int)).toNat else min v.toNat n
theorem ir_(n d:Nat):sIx n d none=d:=rfl
theorem eN_(n d k:Nat):sIx n d (some (k:Int))=min k n:=by
 show(if (k:Int)<0 then ((k:Int)+(n:Int)).toNat else min (k:Int).toNat n)=min k n
 rw[if_neg (by omega),Int.toNat_natCast]
end
end HT
namespace L2
open PySem PySem.Spec PyProof.Rows
abbrev TO:=St->Hp->(Option Int->Hp->Prop)->Prop
def PO(X:Cx)(e:Option Expr)(t:TO):Prop :=
 ∀(pins:List (Addr×Obj)) (s:Shared) (σ:St) (H:Hp) (Q:Option Int->Hp->Prop),Inv X pins σ H s->t σ H Q->
  wpAny (model X.prog X.w) X.A (evalPart e X.env) (fun u s'=>∃o H',Inv X pins σ H' s'/\IsPart u o/\Q o H') X.xe s
def oM_:TO:=fun _ H Q=>Q none H
def tPart(t:TE):TO:=fun σ H Q=>t σ H fun x H1=>∃i,x=.int i/\Q (some i) H1
section
variable{X:Cx}{e:Expr}{te:TE}{lo hi:Option Expr}{tl th:TO}{pos p2:Pos}
theorem eW_:PO X none oM_:=by
 intro pins s σ H Q I h
 rw[evalPart_none]
 exact wpAny_pure ⟨none,H,I,.none,h⟩
theorem br_(h:PE X e te):PO X (some e) (tPart te):=by
 intro pins s σ H Q I hw
 rw[evalPart_some]
 refine thn (h pins s σ H _ I hw) fun u s1 ⟨x,H1,I1,r1,q1⟩=>?_
 obtain⟨i,rfl,q⟩:=q1
 obtain⟨t,rfl⟩:=r1
 exact⟨some i,H1,I1,.int i t,q⟩
def SlR(X:Cx)(r:V->Option Int->Option Int->Hp->VK->Prop):Prop :=
 ∀(pins:List (Addr×Obj)) (s:Shared) (σ:St) (H:Hp) (x:V) (v vl vu:Value) (lo hi:Option Int) (sl:Addr) (Q:VK),Inv X pins σ H s->RelV x v->s.heap.IsSliceOf sl vl vu .none->IsPart vl lo->IsPart vu hi->r x lo hi H Q->
  ∃T id,typeLookup (.type T) "__getitem__"=pure (some (.builtin id))/\s.TypeIs v T/\wpAny (model X.prog X.w) X.A (getItem v (.ref sl)) (EP X pins σ Q) X.xe s
def tSl(r:V->Option Int->Option Int->Hp->VK->Prop)(te:TE)(tl th:TO):TE:=fun σ H Q=>te σ H fun x H1=>tl σ H1 fun l H2=>th σ H2 fun u H3=>r x l u H3 Q
theorem bB_{r:V->Option Int->Option Int->Hp->VK->Prop}(hr:SlR X r)(he:PE X e te)(hl:PO X lo tl)(hu:PO X hi th):PE X (.Subscript e (.Slice lo hi none p2) pos) (tSl r te tl th):=by
 intro pins s σ H Q I h
 refine Subscript_ (thn (he pins s σ H _ I h) fun v s1 ⟨x,H1,I1,r1,q1⟩=>?_)
 refine wpAny_Slice (thn (hl pins s1 σ H1 _ I1 q1) fun vl s2 ⟨l,H2,I2,pl,q2⟩=>thn (hu pins s2 σ H2 _ I2 q2) fun vu s3 ⟨u,H3,I3,pu,q3⟩=>?_)
 rw[evalPart_none]
 refine wpAny_pure ?_
 have I4:Inv X pins σ H3 {s3 with heap:=s3.heap.push {cls:=.type "slice",data:=.fields #[vl,vu,.none]}}:=I3.kept (t':=s3.toks) fun b ob q=>Heap.get?_push_of_some _ q
 obtain⟨T,id,hT,ht,hg⟩:=hr pins {s3 with heap:=s3.heap.push {cls:=.type "slice",data:=.fields #[vl,vu,.none]}} σ H3 x v vl vu l u s3.heap.objs.size Q I4 r1 (Heap.IsSliceOf.new ..) pl pu q3
 show wpAny (model X.prog X.w) X.A (subscriptTail e (.Slice lo hi none p2) v (.ref s3.heap.objs.size)) (EP X pins σ Q) X.xe {s3 with heap:=s3.heap.push {cls:=.type "slice",data:=.fields #[vl,vu,.none]}}
 exact tail_any (ops:=[.ref s3.heap.objs.size,v]) ht hT hg (by with_unfolding_all rfl)
def cutV(xs:List V)(lo hi:Option Int):List V:=(xs.drop (HT.sIx xs.length 0 lo)).take (HT.sIx xs.length xs.length hi-HT.sIx xs.length 0 lo)
theorem hN_(xs:List V)(lo hi:Option Int):(cutV xs lo hi).length<=xs.length:=by
 unfold cutV
 rw[List.length_take,List.length_drop]
 omega
end
def ixN(n:Nat)(i:Int):Option Nat:=if 0<=i then (if i<n then some i.toNat else none) else if -(n:Int)<=i then some (i+n).toNat else none
def atI{α:Type}(xs:List α)(i:Int):Option α:=(ixN xs.length i).bind fun j=>xs[j]?
theorem lz_{n:Nat}{i:Int}{j:Nat}(h:ixN n i=some j):seqIndex? i n=some j/\j<n/\-(n:Int)<=i/\i<n:=by
 unfold ixN at h
 by_cases h0:0<=i
 ·rw[if_pos h0] at h
  by_cases h1:i<n
  ·rw[if_pos h1] at h
   have e:i.toNat=j:=Option.some.inj h
   exact⟨by rw[seqIndex_of h0 h1,e],by omega,by omega,h1⟩
  ·rw[if_neg h1] at h;cases h
 ·rw[if_neg h0] at h
  by_cases h1 : -(n:Int)<=i
  ·rw[if_pos h1] at h
   have e:(i+n).toNat=j:=Option.some.inj h
   exact⟨by rw[seqIndex_neg (by omega) h1,e],by omega,h1,by omega⟩
  ·rw[if_neg h1] at h;cases h
theorem mo_{α:Type}{xs:List α}{i:Int}{v:α}(h:atI xs i=some v):∃j,seqIndex? i xs.length=some j/\xs[j]?=some v/\j<xs.length/\-(xs.length:Int)<=i/\i<xs.length:=by
 unfold atI at h
 cases e:ixN xs.length i with
 | none=>rw[e] at h;cases h
 | some j =>
  rw[e] at h
  obtain⟨h1,h2,h3,h4⟩:=lz_ e
  exact⟨j,h1,h,h2,h3,h4⟩
theorem aJ_{α:Type}{xs:List α}{j:Nat}{v:α}(h:xs[j]?=some v):atI xs (j:Int)=some v:=by
 have hj:j<xs.length:=(List.getElem?_eq_some_iff.mp h).1
 have e:ixN xs.length (j:Int)=some j:=by
  unfold ixN
  rw[if_pos (by omega),if_pos (by omega)];simp
 unfold atI;rw[e];exact h
theorem dk_{α:Type}(xs:List α)(v:α):atI (xs++[v]) (-1)=some v:=by
 have hl:(xs++[v]).length=xs.length+1:=by simp
 have e:ixN (xs++[v]).length (-1)=some xs.length:=by
  unfold ixN
  rw[hl,if_neg (by decide),if_pos (by omega)]
  congr 1
  omega
 unfold atI
 rw[e]
 show(xs++[v])[xs.length]?=some v
 simp
def cL_(b:Expr):Prop:=∀o i,subscripted b false o i=operate [o,i] (getItem o i)
def IxR(X:Cx)(r:R2):Prop :=
 ∀(value slice:Expr) (pins:List (Addr×Obj)) (s:Shared) (σ:St) (H:Hp) (x y:V) (v u:Value) (Q:VK),Inv X pins σ H s->RelV x v->RelV y u->r x y H Q->
  subscripted slice false v u=operate [v,u] (getItem v u)->wpAny (model X.prog X.w) X.A (subscriptTail value slice v u) (EP X pins σ Q) X.xe s
def MtR(X:Cx)(id:String)(r:V->List V->Hp->VK->Prop):Prop :=
 ∀(pins:List (Addr×Obj)) (s:Shared) (σ:St) (H:Hp) (x:V) (xs:List V) (v:Value) (us:List Value) (Q:VK),Inv X pins σ H s->RelV x v->Vals xs us->r x xs H Q->
  wpAny (model X.prog X.w) X.A (call (.builtin id) (v::us)) (EP X pins σ Q) X.xe s
section
variable{X:Cx}{a b:Expr}{ta tb:TE}{pos:Pos}
theorem qw_{r:R2}(hr:IxR X r)(ha:PE X a ta)(hb:PE X b tb)(hs:cL_ b):PE X (.Subscript a b pos) (tOp r ta tb):=by
 intro pins s σ H Q I h
 exact Subscript_ (binT ha hb I h fun v u s2 x y H2 I2 rx ry q=>hr a b pins s2 σ H2 x y v u Q I2 rx ry q (hs _ _))
def rIxL(K:PySem.W.Frag):R2:=fun x y H Q=>∃p xs i v,x=.ref p/\y=.int i/\SqL K H p xs/\atI xs i=some v/\Q v H
def rIxT(K:PySem.W.Frag):R2:=fun x y H Q=>∃p xs i v,x=.ref p/\y=.int i/\SqT K H p xs/\atI xs i=some v/\Q v H
theorem pB_:IxR X (rIxL X.K):=by
 intro value slice pins s σ H x y v u Q I rx ry h hs
 obtain⟨p,xs,i,z,rfl,rfl,hq,he,q⟩:=h
 cases rx
 obtain⟨t,rfl⟩:=ry
 obtain⟨its,r,pl,hz⟩:=I.list hq
 obtain⟨j,h1,h2,h3,h4,h5⟩:=mo_ he
 obtain⟨w,ew,rw'⟩:=r.get h2
 have hl:=r.length
 have hn:=line63
 have fin:EP X pins σ Q w s:=⟨z,H,I,rw',q⟩
 by_cases h0:0<=i
 ·have hj:i.toNat=j:=by
   rw[seqIndex_of h0 h5] at h1
   exact Option.some.inj h1
  exact item_listR pl.isList h0 (by omega) (by rw[hj];simpa using ew) fin hs
 ·have hj:(i+(its.toArray.size:Int)).toNat=j:=by
   rw[seqIndex_neg (by omega) h4] at h1
   rw[List.size_toArray,<-hl]
   exact Option.some.inj h1
  exact subscriptTail_builtinR (x:=w) pl.isList.typeIs slot_list_getitem.lookup
   (wpAny_getItem_list_neg (Q:=fun r s'=>r=w/\EP X pins σ Q r s') pl.isList (by omega) (by rw[List.size_toArray] <;> omega) (by omega) (by rw[hj];simpa using ew) ⟨rfl,fin⟩) hs
theorem qV_:IxR X (rIxT X.K):=by
 intro value slice pins s σ H x y v u Q I rx ry h hs
 obtain⟨p,xs,i,z,rfl,rfl,hq,he,q⟩:=h
 cases rx
 obtain⟨t,rfl⟩:=ry
 obtain⟨its,r,pl,hz⟩:=I.tuple hq
 obtain⟨j,h1,h2,h3,h4,h5⟩:=mo_ he
 obtain⟨w,ew,rw'⟩:=r.get h2
 have hl:=r.length
 have hn:=line63
 have fin:EP X pins σ Q w s:=⟨z,H,I,rw',q⟩
 exact subscriptTail_builtinR (x:=w) pl.typeIs slot_tuple_getitem.lookup
  (getItem_tuple (j:=j) (Q:=fun r s'=>r=w/\EP X pins σ Q r s') pl (by omega) (by omega) (by rw[List.size_toArray,<-hl];exact h1) (by simpa using ew) ⟨rfl,fin⟩) hs
theorem jG_(its:List Value)(n j:Nat)(u:Value):Obj.mapSeq (·.setIfInBounds j u) {cls:=.type "list",data:=.seq its.toArray n}={cls:=.type "list",data:=.seq (its.set j u).toArray n}:=by
 simp[Obj.mapSeq]
theorem Inv.lst{pins:List (Addr×Obj)}{σ:St}{H:Hp}{s:Shared}{p:Addr}{xs:List V}(I:Inv X pins σ H s)(h:H p=some (.lst xs)) :
  ∃(its:List Value) (n:Nat),Vals xs its/\s.heap.get? p=some {cls:=.type "list",data:=.seq its.toArray n}/\xs.length<=sizeLine:=by
 obtain⟨z,its,n,r,e⟩:=I.hok p _ h
 exact⟨its,n,r,e,z⟩
theorem Inv.lstUpd{pins:List (Addr×Obj)}{σ:St}{H:Hp}{s:Shared}{p:Addr}{xs ys:List V}{its its':List Value}{n n':Nat}{f:Obj->Obj}(I:Inv X pins σ H s)(h:H p=some (.lst xs))
  (ho:s.heap.get? p=some {cls:=.type "list",data:=.seq its.toArray n}) (hf:f {cls:=.type "list",data:=.seq its.toArray n}={cls:=.type "list",data:=.seq its'.toArray n'}) (r:Vals ys its') (hz:ys.length<=sizeLine) (t:Nat) :
  Inv X pins σ (upd H p (.lst ys)) {s with heap:=s.heap.update p f,toks:=t}:=by
 have e:(s.heap.update p f).get? p=some {cls:=.type "list",data:=.seq its'.toArray n'}:=by
  rw[Heap.get?_update_self f ho (by rw[hf] <;> rfl),hf]
 refine I.write (x:=p) (e:=p) (by rw[h];trivial) (.inl rfl) (fun b u hb q=>(Heap.get?_update_other _ _ (Ne.symm hb)).trans q) ⟨_,e⟩ ?_
 exact⟨hz,its',n',r,e⟩
def rSetL:V->V->V->Hp->(Hp->Prop)->Prop:=fun o i v H Q=>∃p xs k j,o=.ref p/\i=.int k/\H p=some (.lst xs)/\ixN xs.length k=some j/\Q (upd H p (.lst (xs.set j v)))
theorem ce_:PSet X rSetL:=by
 intro pins s σ H o i v ov iv u Q I ro ri rv h
 obtain⟨p,xs,k,j,rfl,rfl,hp,hj,q⟩:=h
 cases ro
 obtain⟨t,rfl⟩:=ri
 obtain⟨its,n,r,ho,hz⟩:=I.lst hp
 obtain⟨h1,h2,h3,h4⟩:=lz_ hj
 have hl:=r.length
 have hn:=line63
 have I':Inv X pins σ (upd H p (.lst (xs.set j v))) {s with heap:=s.heap.update p (Obj.mapSeq (·.setIfInBounds j u))} :=
  I.lstUpd hp ho (jG_ its n j u) (r.set rv j) (by rw[List.length_set];exact hz) s.toks
 by_cases h0:0<=k
 ·have hk:k.toNat=j:=by
   rw[seqIndex_of h0 h4] at h1
   exact Option.some.inj h1
  exact PySem.W.ki_setAt ho h0 (by omega) (by rw[List.size_toArray,<-hl];exact h4) (by rw[hk];exact⟨_,I',q⟩)
 ·have hk:(k+(its.toArray.size:Int)).toNat=j:=by
   rw[seqIndex_neg (by omega) h3] at h1
   rw[List.size_toArray,<-hl]
   exact Option.some.inj h1
  exact PySem.W.ki_setBack ho (by omega) (by rw[List.size_toArray,<-hl];exact h3) (by omega) (by rw[hk];exact⟨_,I',q⟩)
theorem fF_(lo hi:Option Int)(n:Nat):(sliceBounds lo hi none n).1=((HT.sIx n 0 lo:Nat):Int)/\(sliceBounds lo hi none n).2.1=((HT.sIx n n hi:Nat):Int)/\(sliceBounds lo hi none n).2.2=1:=by
 refine⟨?_,?_,rfl⟩
 ·cases lo with
  | none=>simp[sliceBounds,HT.sIx]
  | some i =>
   simp only[sliceBounds,HT.sIx,Option.getD_none,show(1:Int)>0 by decide,if_true]
   by_cases h:i<0
   ·simp only[h,if_true] <;> omega
   ·simp only[h,if_false] <;> omega
 ·cases hi with
  | none=>simp[sliceBounds,HT.sIx]
  | some i =>
   simp only[sliceBounds,HT.sIx,Option.getD_none,show(1:Int)>0 by decide,if_true]
   by_cases h:i<0
   ·simp only[h,if_true] <;> omega
   ·simp only[h,if_false] <;> omega
theorem eK_(its:List Value)(lo hi:Option Int):slicePick its.toArray lo hi none=((its.drop (HT.sIx its.length 0 lo)).take (HT.sIx its.length its.length hi-HT.sIx its.length 0 lo)).toArray:=by
 obtain⟨h1,h2,h3⟩:=fF_ lo hi its.toArray.size
 unfold slicePick
 rw[h1,h2,h3]
 simp only[sliceRange_one,pick_run,List.size_toArray] <;> rfl
def rSlL(K:PySem.W.Frag):V->Option Int->Option Int->Hp->VK->Prop:=fun x lo hi H Q=>∃a xs,x=.ref a/\SqL K H a xs/\∀p,H p=none->Q (.ref p) (upd H p (.lst (cutV xs lo hi)))
theorem dt_:SlR X (rSlL X.K):=by
 intro pins s σ H x v vl vu lo hi sl Q I rx hs pl pu h
 obtain⟨a,xs,rfl,hx,q⟩:=h
 cases rx
 obtain⟨its,r,ht,hz⟩:=I.list hx
 have hlen:=r.length
 refine⟨"list",_,slot_list_getitem.lookup,ht.isList.typeIs,?_⟩
 refine wpAny_getItem_list_slice ht.isList hs pl pu .none (by simp) ?_ (by rw[List.size_toArray] <;> omega)
 rw[eK_,<-hlen]
 refine⟨.ref s.heap.objs.size,_,I.laid (t':=s.toks) (o:=.lst (cutV xs lo hi)) (fun b ob q=>Heap.get?_push_of_some _ q) (Nat.le_refl _) ?_,rfl,q _ (I.hok.fresh (Nat.le_refl _))⟩
 exact⟨Nat.le_trans (hN_ xs lo hi) hz,_,0,(r.drop (HT.sIx xs.length 0 lo)).take (HT.sIx xs.length xs.length hi-HT.sIx xs.length 0 lo),Heap.get?_push_size _ rfl⟩
theorem gy_:CallR X (.builtin "len") (fun xs H Q=>∃p ys,xs=[.ref p]/\(SqL X.K H p ys\/SqT X.K H p ys)/\Q (.int ys.length) H):=by
 intro pins s σ H xs us Q I r h
 obtain⟨p,ys,rfl,hq,q⟩:=h
 obtain⟨u,rfl,rx⟩:=vals1 r
 cases rx
 have hn:=line63
 rcases hq with hq | hq
 ·obtain⟨its,r',pl,hz⟩:=I.list hq
  have hlen:=r'.length
  exact Calls.call_len_list pl.isList (by simp only[List.size_toArray] <;> omega) ⟨.int ys.length,H,I.tok _,⟨s.toks+1,by rw[List.size_toArray,hlen]⟩,q⟩
 ·obtain⟨its,r',pl,hz⟩:=I.tuple hq
  have hlen:=r'.length
  exact len_tuple pl (by simp only[List.size_toArray] <;> omega) ⟨.int ys.length,H,I.tok _,⟨s.toks+1,by rw[List.size_toArray,hlen]⟩,q⟩
theorem aj_:CallR X (.type "list") (fun xs H Q=>∃p ys,xs=[.ref p]/\(SqL X.K H p ys\/SqT X.K H p ys)/\∀l,H l=none->Q (.ref l) (upd H l (.lst ys))):=by
 intro pins s σ H xs us Q I r h
 obtain⟨p,ys,rfl,hq,q⟩:=h
 obtain⟨u,rfl,rx⟩:=vals1 r
 cases rx
 have fin:∀(its:List Value),Vals ys its->ys.length<=sizeLine->∀(h':Heap) (c':Nat),(∀b o',s.heap.get? b=some o'->h'.get? b=some o')->
   h'.get? s.heap.objs.size=some {cls:=.type "list",dict:=none,data:=.seq its.toArray c',slots:=#[]}->EP X pins σ Q (.ref s.heap.objs.size) {s with heap:=h'}:=fun its r' hz h' c' kp e =>
  ⟨.ref s.heap.objs.size,_,I.laid (t':=s.toks) kp (Nat.le_refl _) (show ObjOk X.prog X.w _ h' _ (.lst ys) from⟨hz,its,c',r',e⟩),rfl,q _ (I.hok.fresh (Nat.le_refl _))⟩
 rcases hq with hq | hq
 ·obtain⟨its,r',pl,hz⟩:=I.list hq
  have hlen:=r'.length
  obtain⟨o,ho,hc,n,hd⟩:=pl.isList
  exact call_list_seq p (.inl rfl) ho hc hd (fun h' c' kp e=>fin its r' hz h' c' kp e) (by simp only[List.size_toArray] <;> omega)
 ·obtain⟨its,r',pl,hz⟩:=I.tuple hq
  have hlen:=r'.length
  obtain⟨o,ho,hc,n,hd⟩:=pl
  exact call_list_seq p (.inr rfl) ho hc hd (fun h' c' kp e=>fin its r' hz h' c' kp e) (by simp only[List.size_toArray] <;> omega)
def tyV(K:PySem.W.Frag)(T:String)(x:V)(H:Hp):Prop:=match x with
 | .str _=>T="str"
 | .int _=>T="int"
 | .ref p=>(T="list"/\∃xs,SqL K H p xs)\/(T="tuple"/\∃o,K.lookup p=some o/\o.cls=.type "tuple"/\o.dict=none)\/
   (T="dict"/\((∃kvs,H p=some (.dK kvs))\/∃kvs,H p=some (.dT kvs)))\/(T="set"/\∃S n,H p=some (.set S n))
 | _=>False
theorem nJ_{pins:List (Addr×Obj)}{σ:St}{H:Hp}{s:Shared}{T:String}{x:V}{v:Value}(I:Inv X pins σ H s)(r:RelV x v)(ty:tyV X.K T x H) :
  s.TypeIs v T/\∀a,v=.ref a->∃ob,s.heap.get? a=some ob/\ob.dict=none:=by
 cases x with
 | str z =>
  obtain⟨t,rfl⟩:=r
  cases (show T="str" from ty)
  exact⟨typeIs_str s z t,fun _ e=>nomatch e⟩
 | int i =>
  obtain⟨t,rfl⟩:=r
  cases (show T="int" from ty)
  exact⟨typeIs_int s i t,fun _ e=>nomatch e⟩
 | ref p =>
  cases r
  rcases ty with⟨rfl,xs,hq⟩ | ⟨rfl,o,hk,hc,hd⟩ | ⟨rfl,hk⟩ | ⟨rfl,S,n,hk⟩
  ·obtain⟨its,_,pl,_⟩:=I.list hq
   refine⟨pl.isList.typeIs,fun a e=>?_⟩
   cases e
   obtain⟨o,n,e,c,hd,_⟩:=pl
   exact⟨o,e,hd⟩
  ·refine⟨⟨o,I.kIn p o hk,hc⟩,fun a e=>?_⟩
   cases e
   exact⟨o,I.kIn _ o hk,hd⟩
  ·have z:∃o,s.heap.get? p=some o/\o.ExactDict:=by
    rcases hk with⟨kvs,hk⟩ | ⟨kvs,hk⟩
    ·obtain⟨_,_,_,_,o,_,_,e,ex,_⟩:=I.hok p _ hk
     exact⟨o,e,ex⟩
    ·obtain⟨_,_,_,_,o,_,_,e,ex,_⟩:=I.hok p _ hk
     exact⟨o,e,ex⟩
   obtain⟨o,e,ex⟩:=z
   refine⟨⟨o,e,ex.1⟩,fun a e2=>?_⟩
   cases e2
   exact⟨o,e,ex.2.1⟩
  ·obtain⟨o,_,_,_,e,ex,_⟩:=I.hok p _ hk
   refine⟨⟨o,e,ex.1⟩,fun a e2=>?_⟩
   cases e2
   exact⟨o,e,ex.2.1⟩
 | _=>exact False.elim ty
def tBM0(K:PySem.W.Frag)(T:String)(r:V->List V->Hp->VK->Prop)(to:TE):TE:=fun σ H Q=>to σ H fun x H1=>tyV K T x H1/\r x [] H1 Q
def tBM(K:PySem.W.Frag)(T:String)(r:V->List V->Hp->VK->Prop)(to:TE)(t:TA):TE:=fun σ H Q=>to σ H fun x H1=>tyV K T x H1/\t σ H1 fun xs H2=>r x xs H2 Q
variable{o e:Expr}{es:List Expr}{to:TE}{t:TA}{name:Str}{apos cpos:Pos}{T id:String}{r:V->List V->Hp->VK->Prop}
theorem qy_(pa:PlainAttrs T)(slot:Slot T name id)(hty:typeOf (.builtin id)=pure (.type "method_descriptor"))(hm:MtR X id r)(ho:PE X o to)
  (hbase:attributeBase o name X.env (eval o X.env)=eval o X.env:=by rfl) (hline:(apos.endLine==cpos.line)=true:=by rfl):PE X (.Call (.Attribute o name apos) [] [] cpos) (tBM0 X.K T r to):=by
 intro pins s σ H Q I h
 refine wpAny_Call_method0_late hbase hline (thn (ho pins s σ H _ I h) fun v s1 ⟨x,H1,I1,r1,ty,q1⟩=>?_)
 obtain⟨h1,h2⟩:=nJ_ I1 r1 ty
 exact⟨T,id,pa,slot,hty,h1,h2,Calls.callWith_builtin rfl (PySem.evalArgs_none (hm pins s1 σ H1 x [] v [] Q I1 r1 .nil q1))⟩
theorem fS_(pa:PlainAttrs T)(slot:Slot T name id)(hty:typeOf (.builtin id)=pure (.type "method_descriptor"))(hm:MtR X id r)(ho:PE X o to)(ha:PA X (e::es) t)
  (hbase:attributeBase o name X.env (eval o X.env)=eval o X.env:=by rfl)
  (hfew:((backTo cpos (starEach (e::es) X.env)).all (fun x=>!x.1)&&(backToKw cpos (keywordEach [] X.env)).all (fun x=>x.1.isSome)
   && decide ((e::es).length+([]:List Keyword).length+(if ([]:List Keyword).isEmpty then 0 else 1)<30))=true:=by rfl)
  (hline:(apos.endLine==cpos.line)=true:=by rfl) (hs:starEach (e::es) X.env=(false,eval e X.env)::starEach es X.env:=by rfl) (hplain:(backTo cpos (starEach es X.env)).any (·.1)=false:=by rfl) :
  PE X (.Call (.Attribute o name apos) (e::es) [] cpos) (tBM X.K T r to t):=by
 intro pins s σ H Q I h
 refine wpAny_Call_method_late hbase hfew hline rfl (thn (ho pins s σ H _ I h) fun v s1 ⟨x,H1,I1,r1,ty,q1⟩=>?_)
 obtain⟨h1,h2⟩:=nJ_ I1 r1 ty
 refine⟨T,id,pa,slot,hty,h1,h2,?_⟩
 have hA:=ha cpos pins s1 σ H1 _ I1 q1
 rw[hs] at hA⊢
 refine Calls.callWith_builtin (by show(false || (backTo cpos (starEach es X.env)).any (·.1))=false;rw[hplain] <;> rfl) (Calls.evalArgs_plain ?_)
 exact thn hA fun us s2 ⟨vs,H2,I2,r2,q2⟩=>hm pins s2 σ H2 x vs v us Q I2 r1 r2 q2
end
def MtM(X:Cx)(id:String)(r:V->List V->Hp->VK->Prop):Prop :=
 ∀(pins:List (Addr×Obj)) (s:Shared) (σ:St) (H:Hp) (x:V) (xs:List V) (v:Value) (us:List Value) (Q:VK),Inv X pins σ H s->RelV x v->Vals xs us->r x xs H Q->
  wpAny (model X.prog X.w) X.A (call (.builtin id) (v::us)) (EP X pins σ Q) X.xe s
theorem Vals.one:∀ {x:V} {us:List Value},Vals [x] us->∃u,us=[u]/\RelV x u
 | _,_,.cons r .nil=>⟨_,rfl,r⟩
theorem Vals.two:∀ {x y:V} {us:List Value},Vals [x,y] us->∃u v,us=[u,v]/\RelV x u/\RelV y v
 | _,_,_,.cons r (.cons q .nil)=>⟨_,_,rfl,r,q⟩
theorem Vals.zero:∀ {us:List Value},Vals [] us->us=[]
 | _,.nil=>rfl
theorem Vals.dropLast{xs:List V}{us:List Value}(h:Vals xs us):Vals xs.dropLast us.dropLast:=by
 induction h with
 | nil=>exact .nil
 | cons r t ih =>
  cases t with
  | nil=>exact .nil
  | cons q t'=>exact .cons r ih
theorem Vals.reverse{xs:List V}{us:List Value}(h:Vals xs us):Vals xs.reverse us.reverse:=by
 induction h with
 | nil=>exact .nil
 | cons r t ih=>rw[List.reverse_cons,List.reverse_cons];exact Vals.append ih (.cons r .nil)
theorem Vals.rep{xs:List V}{us:List Value}(h:Vals xs us):∀k:Nat,Vals (List.replicate k xs).flatten (List.replicate k us).flatten
 | 0=>.nil
 | k+1=>by
  rw[List.replicate_succ,List.replicate_succ,List.flatten_cons,List.flatten_cons]
  exact Vals.append h (Vals.rep h k)
theorem jQ_{α:Type}(l:List α):l.eraseIdx (l.length-1)=l.dropLast:=by
 induction l with
 | nil=>rfl
 | cons a r ih =>
  cases r with
  | nil=>rfl
  | cons b r =>
   have e:(a::b::r).length-1=((b::r).length-1)+1:=by
    have h1:(a::b::r).length=r.length+2:=rfl
    have h2:(b::r).length=r.length+1:=rfl
    omega
   rw[e,List.eraseIdx_cons_succ,ih]
   all_goals rfl
theorem go_(its:List Value):∀(k:Nat) (acc:List Value),
  List.foldl (fun x1 x2=>x1++x2) acc.toArray (List.replicate k its.toArray)=(acc++(List.replicate k its).flatten).toArray
 | 0,acc=>by simp
 | k+1,acc=>by
  have e:acc.toArray++its.toArray=(acc++its).toArray:=by simp
  have e2:(acc++its)++(List.replicate k its).flatten=acc++(List.replicate (k+1) its).flatten:=by
   rw[List.replicate_succ,List.flatten_cons,List.append_assoc]
  rw[<-e2,<-go_ its k (acc++its),<-e,List.replicate_succ,List.foldl_cons]
section
variable{X:Cx}{pins:List (Addr×Obj)}{σ:St}{H:Hp}{s:Shared}{l b:Addr}{xs ys zs:List V}
theorem Inv.lset{its its':List Value}{n:Nat}{f:Array Value->Array Value}{t':Nat}(I:Inv X pins σ H s)(hH:H l=some (.lst xs))
  (e:s.heap.get? l=some {cls:=.type "list",data:=.seq its.toArray n}) (hf:f its.toArray=its'.toArray) (hv:Vals ys its') (hz:ys.length<=sizeLine) :
  Inv X pins σ (upd H l (.lst ys)) {s with heap:=s.heap.update l (Obj.mapSeq f),toks:=t'}:=by
 have q:=PySem.IsL.update e f
 rw[hf] at q
 refine I.write (x:=l) (e:=l) (by rw[hH];exact trivial) (.inl rfl) (fun b' u hb hu=>(Heap.get?_update_other s.heap (Obj.mapSeq f) (Ne.symm hb)).trans hu) ⟨_,q⟩ ?_
 exact⟨hz,its',_,hv,q⟩
theorem Inv.lnew{its:List Value}{t':Nat}(I:Inv X pins σ H s)(hv:Vals ys its)(hz:ys.length<=sizeLine) :
  Inv X pins σ (upd H s.heap.objs.size (.lst ys)) {s with heap:=s.heap.push {cls:=.type "list",data:=.seq its.toArray},toks:=t'} :=
 I.laid (fun _ _ q=>Heap.get?_push_of_some _ q) (Nat.le_refl _) ⟨hz,its,0,hv,Heap.get?_push_size _ rfl⟩
theorem Inv.fresh(I:Inv X pins σ H s):H s.heap.objs.size=none:=I.hok.fresh (Nat.le_refl _)
theorem Inv.lstM(I:Inv X pins σ H s)(hH:H l=some (.lst xs)):xs.length<=sizeLine/\∃(its:List Value) (n:Nat),Vals xs its/\xs.length=its.length/\s.heap.get? l=some {cls:=.type "list",data:=.seq its.toArray n}:=by
 obtain⟨z,its,n,r,e⟩:=I.hok l _ hH
 exact⟨z,its,n,r,r.length,e⟩
theorem iH_{n:Nat}(h:n<=sizeLine):Builtin.List.listTooLong n=false:=by
 unfold Builtin.List.listTooLong
 exact decide_eq_false (by omega)
end
section
variable{X:Cx}
def oW_:V->List V->Hp->VK->Prop:=fun x vs H Q=>∃l xs y,x=.ref l/\vs=[y]/\H l=some (.lst xs)/\xs.length<sizeLine/\Q .non (upd H l (.lst (xs++[y])))
theorem ah_:MtM X "list.append" oW_:=by
 intro pins s σ H x vs v us Q I rx rv h
 obtain⟨l,xs,y,rfl,rfl,hH,hz,q⟩:=h
 cases rx
 obtain⟨u,rfl,ru⟩:=rv.one
 obtain⟨z,its,n,r,hl,e⟩:=I.lstM hH
 refine call_meets F.slot_list_append ⟨_,e,rfl⟩ F.entry_list_append (F.args_list_append_2 _ _) (PySem.list_append l its.toArray n u (by rw[List.size_toArray];omega)) ⟨e,?_⟩
 refine⟨.non,_,I.lset (its':=its++[u]) hH e (by simp) (r.append (.cons ru .nil)) ?_,rfl,q⟩
 rw[List.length_append,List.length_singleton]
 omega
def oV_:V->List V->Hp->VK->Prop:=fun x vs H Q=>∃l b xs zs,x=.ref l/\vs=[.ref b]/\H l=some (.lst xs)/\H b=some (.lst zs)/\xs.length+zs.length<=sizeLine/\Q .non (upd H l (.lst (xs++zs)))
theorem mt_extend:MtM X "list.extend" oV_:=by
 intro pins s σ H x vs v us Q I rx rv h
 obtain⟨l,b,xs,zs,rfl,rfl,hH,hB,hz,q⟩:=h
 cases rx
 obtain⟨u,rfl,ru⟩:=rv.one
 cases ru
 obtain⟨z,its,n,r,hl,e⟩:=I.lstM hH
 obtain⟨z2,its2,n2,r2,hl2,e2⟩:=I.lstM hB
 have hsz:its.toArray.size+its2.toArray.size<=sizeLine:=by rw[List.size_toArray,List.size_toArray];omega
 have hlong:¬ (!its.toArray.isEmpty&&Builtin.List.listTooLong (its.toArray.size+its2.toArray.size))=true:=by
  rw[iH_ hsz,Bool.and_false]
  exact Bool.false_ne_true
 refine call_meets F.slot_list_extend ⟨_,e,rfl⟩ F.entry_list_extend (F.args_list_extend_2 _ _)
  (AutoSeq1.list_extend_list_list_0 l its.toArray n b its2.toArray n2 hlong (by rw[List.size_toArray];omega) (by omega)) ⟨e,e2,?_⟩
 refine⟨.non,_,I.lset (its':=its++its2) hH e (by simp) (r.append r2) ?_,rfl,q⟩
 rw[List.length_append]
 omega
def rPop:V->List V->Hp->VK->Prop:=fun x vs H Q=>∃l xs y,x=.ref l/\vs=[]/\H l=some (.lst xs)/\xs[xs.length-1]?=some y/\Q y (upd H l (.lst xs.dropLast))
theorem qM_:MtM X "list.pop" rPop:=by
 intro pins s σ H x vs v us Q I rx rv h
 obtain⟨l,xs,y,rfl,rfl,hH,hy,q⟩:=h
 cases rx
 have hus:=rv.zero
 subst hus
 obtain⟨z,its,n,r,hl,e⟩:=I.lstM hH
 obtain⟨u,hu,ru⟩:=r.get hy
 have hy':its.toArray[its.toArray.size-1]?=some u:=by
  show its.toArray[its.length-1]?=some u
  rw[<-Array.getElem?_toList,<-hl]
  exact hu
 refine call_meets F.slot_list_pop ⟨_,e,rfl⟩ F.entry_list_pop (F.args_list_pop_1 _) (MeetsSeq.list_pop_last l its.toArray n u hy' (by rw[List.size_toArray];omega)) ⟨e,?_⟩
 refine⟨y,_,I.lset (its':=its.dropLast) hH e ?_ r.dropLast ?_,ru,q⟩
 ·show its.toArray.eraseIdxIfInBounds (its.toArray.size-1)=its.dropLast.toArray
  rw[List.size_toArray,List.eraseIdxIfInBounds_toArray,jQ_]
 ·rw[List.length_dropLast]
  omega
def rCat:R2:=fun x y H Q=>∃l b xs zs,x=.ref l/\y=.ref b/\H l=some (.lst xs)/\H b=some (.lst zs)/\xs.length+zs.length<=sizeLine/\∀p,H p=none->Q (.ref p) (upd H p (.lst (xs++zs)))
theorem fV_:OpR X (binaryOp .Add) rCat:=by
 intro pins s σ H x y v u Q I rx ry h
 obtain⟨l,b,xs,zs,rfl,rfl,hH,hB,hz,q⟩:=h
 cases rx
 cases ry
 obtain⟨z,its,n,r,hl,e⟩:=I.lstM hH
 obtain⟨z2,its2,n2,r2,hl2,e2⟩:=I.lstM hB
 refine PySem.P.add_list e e2 ?_ (by rw[List.size_toArray,List.size_toArray];omega)
 have ea:its.toArray++its2.toArray=(its++its2).toArray:=by simp
 rw[ea]
 exact⟨.ref _,_,I.lnew (t':=s.toks) (r.append r2) (by rw[List.length_append];omega),rfl,q _ I.fresh⟩
def rRep:R2:=fun x y H Q=>∃l k xs,x=.ref l/\y=.int k/\H l=some (.lst xs)/\-(2 ^ 63)<=k/\k<2 ^ 63/\xs.length*k.toNat<=sizeLine/\
 ∀p,H p=none->Q (.ref p) (upd H p (.lst (List.replicate k.toNat xs).flatten))
theorem px_{α:Type}(xs:List α)(k:Nat):(List.replicate k xs).flatten.length=k*xs.length:=by
 induction k with
 | zero=>simp
 | succ k ih=>rw[List.replicate_succ,List.flatten_cons,List.length_append,ih,Nat.succ_mul,Nat.add_comm]
theorem qA_:OpR X (binaryOp .Mult) rRep:=by
 intro pins s σ H x y v u Q I rx ry h
 obtain⟨l,k,xs,rfl,rfl,hH,h1,h2,hz,q⟩:=h
 cases rx
 obtain⟨t,rfl⟩:=ry
 obtain⟨z,its,n,r,hl,e⟩:=I.lstM hH
 have hlen:its.toArray.size*k.toNat<=sizeLine:=by rw[List.size_toArray,<-hl];exact hz
 have hcap:¬ its.toArray.size*k.toNat>(2 ^ 63-1) / 8:=by
  have:(sizeLine:Nat)<=(2 ^ 63-1) / 8:=by decide
  omega
 have hfit:¬ (!Builtin.List.listFitsIndex k)=true:=by
  rw[fitsIndex_both h1 h2]
  exact Bool.false_ne_true
 have hlong:¬ Builtin.List.listTooLong (its.toArray.size*k.toNat)=true:=by
  rw[iH_ hlen]
  exact Bool.false_ne_true
 have hnew:List.foldl (fun x1 x2=>x1++x2) #[] (List.replicate (if its.toArray.isEmpty=true then 0 else k.toNat) its.toArray)=(List.replicate k.toNat its).flatten.toArray:=by
  have f0:∀m:Nat,List.foldl (fun x1 x2=>x1++x2) #[] (List.replicate m its.toArray)=(List.replicate m its).flatten.toArray:=fun m=>by
   have:=go_ its m []
   rw[List.nil_append] at this
   exact this
  rw[f0]
  cases its with
  | nil=>simp
  | cons a r'=>rw[if_neg (by simp)]
 refine wpAny_binaryOp_repeat_ref (T:="list") (U:="int") (by decide) ⟨_,e,rfl⟩ (fun s'=>typeIs_int s' k t) noFill_list_mul F.fills_int_mul F.slot_int_rmul repeat_list F.slot_int_index.lookup
  (call_meets F.slot_int_rmul (typeIs_int s k t) F.entry_int_rmul (F.args_int_rmul_2 _ _) (int___rmul___int_list k t l its.toArray n)
   ⟨e,rfl,⟨_,e,rfl⟩,call_meets F.slot_list_mul ⟨_,e,rfl⟩ F.entry_list_mul (F.args_list_mul_2 _ _) (AutoListH.list___mul___list_int_3 l its.toArray n k t hfit hcap hlong) ⟨e,?_⟩⟩)
 rw[hnew]
 exact⟨.ref _,_,I.lnew (t':=s.toks) (r.rep k.toNat) (by rw[px_,Nat.mul_comm];exact hz),rfl,q _ I.fresh⟩
end
section
variable{prog:Program}{w:World}{A:Around}{E:Value->Shared->Prop}{s:Shared}
end
section
variable{X:Cx}
end
end L2
namespace Att
open PySem PySem.W PySem.Calls PyProof.Rows
theorem dN_{P:Params}{h:Heap}:∀(ns:List Int) (vs:List Value),WellAll P h vs (ns.map WData.int)->IntsAre vs ns:=by
 intro ns
 induction ns with
 | nil =>
  intro vs w
  rw[List.map_nil] at w
  cases w
  exact .nil
 | cons n ns ih =>
  intro vs w
  rw[List.map_cons] at w
  cases w with
  | cons a b =>
   cases a
   exact .cons _ _ (ih _ b)
theorem kC_{l:OpenLaw}{n:Nat}(hn:l.most=some n){P:Params}{h:Heap}{args:List WData}{vals:List Value}
  (hpre:l.row.toRowW.claim.pre args=true) (hwl:WellAll P h vals args) :
  ∃a vs ns,vals=[Value.ref a]/\args=[WData.list (ns.map WData.int)]/\h.get? a=some {cls:=.type "list",data:=.seq vs.toArray}/\IntsAre vs ns/\ns.length<=n:=by
 have hsh:WShape.hasAll [] args [.list .int]=true:=(pre_splitW hpre).1
 have hc:l.pre.holds [] {args:=args}=true:=(pre_splitW hpre).2
 obtain⟨d,r,rfl,h1,h2⟩:=hasAllW_cons hsh
 obtain rfl:=hasAllW_nil h2
 obtain⟨xs,rfl,h3⟩:=hasW_list h1
 obtain⟨ns,rfl⟩:=items_int h3
 have hlen:ns.length<=n:=by
  unfold OpenLaw.pre at hc
  have h4:(WTm.not (.lt (.lit (.int (n:Int))) (.len (.arg 0)))).holds [] {args:=[.list (ns.map .int)]}=true:=by
   have h4:=(holds_andW hc).1
   rw[hn] at h4
   exact h4
  have h5:=condW_of h4 (w_not (w_lt w_lit (w_len_list (w_arg rfl))))
  rw[List.length_map] at h5
  refine Nat.le_of_not_lt fun q=>?_
  have q':(n:Int)<((ns.length:Nat):Int):=by omega
  first
   | (rw[decide_eq_true q'] at h5;exact absurd h5 (by decide))
   | (simp at h5;omega)
 cases hwl with
 | cons w1 w2 =>
  cases w2
  cases w1 with
  | list ho hall=>exact⟨_,_,ns,rfl,rfl,ho,dN_ ns _ hall,hlen⟩
theorem kU_(l:OpenLaw)(args:List WData):l.row.toRowW.claim.post args (.bool true) args=true :=
 postW_of (r:=l.row.toRowW) (X:=(true==true))
  (show WShape.has [] (.bool true) .bool=true by first | rfl | decide | simp[WShape.has,WShape.arms,WShape.armsAll])
  (show(WTm.eq .res (.lit (.bool true))).value [] {args:=args,res:=some (.bool true),after:=args}=some (.bool (true==true)) from w_eq_bool (w_res rfl) w_lit) rfl
theorem attach_call{l:OpenLaw}{n:Nat}{q:Program}{loose:List Str}{XP:(Str->Option Value)->Heap->Prop}{YP:World->Heap->Prop}{d:DefRec}
  (hn:l.most=some n) (hdf:d.params.defaults=[])
  (call:∀(w:World) (s₀ s₁:Shared) (mg mb:Str->Option Value) (fa:Addr) (o:Obj) (pm cd doc:Value) (a:Addr) (vs:List Value) (ns:List Int),
   Ground q loose [] XP w s₀ mg mb s₁.heap->YP w s₁.heap->
   s₁.heap.get? fa=some o->o.data=.func (docDef d.name d.params d.body d.scope pm cd doc)->s₁.heap.CodeRec cd d.name->mg d.name=some (.ref fa)->
   s₁.heap.get? a=some {cls:=.type "list",data:=.seq vs.toArray}->IntsAre vs ns->ns.length<=n->s₁.gens=#[]->
   codeAny (model l.prog w) callerA (.call (.ref fa) ⟨[.ref a],[]⟩) (fun r s'=>r=.ok (.ret (.bool true))/\OldK s₁.heap s'.heap/\s'.os=s₁.os/\AllBare s'.gens) s₁) :
  WalkO q loose XP YP l.row.toRowW d [] (fun f vs=>PySem.call f vs):=by
 intro w s₀ s₁ mg mb G Y fa o pm cd doc dV kV ho hd hcd hD hmg hg args vals as hpre hlay hrd hwl hlo
 obtain rfl:dV=.none:=Dflts.none hD hdf
 obtain rfl:kV=.none:=Dflts.noKw hD
 obtain⟨a,vs,ns,rfl,rfl,hobj,hints,hlen⟩:=kC_ hn hpre hwl
 refine enter_call (codeAny_mono (call w s₀ s₁ mg mb fa o pm cd doc a vs ns G Y ho (fd_plain hd) hcd hmg hobj hints hlen hg) fun r s' hq=>?_)
 obtain⟨rfl,h2,h3,h4⟩:=hq
 exact⟨.inl ⟨.bool true,.bool true,[],rfl,fun _=>rfl,.bool true,kU_ l _,fun _=>⟨List.Pairwise.nil,fun _ hm=>(nomatch hm)⟩⟩,h2,h3,h4⟩
section
variable{prog:Program}{w:World}{A:Around}{E:Value->Shared->Prop}{s:Shared}{K:Frag}
def ledger(h:Heap)(L d:Addr):List (Addr×Obj):=(List.range h.objs.size).filterMap fun a=>if a=L\/a=d then none else (h.get? a).map fun o=>(a,o)
end
end Att
namespace L2
open PySem PySem.Spec PyProof.Rows
theorem fu_{vs:List Value}{ns:List Int}(h:IntsAre vs ns):Vals (ns.map V.int) vs:=by
 induction h with
 | nil=>exact .nil
 | cons n t _ ih=>exact .cons ⟨t,rfl⟩ ih
def Only(H:Hp):Prop:=∀b,H b=none\/∃o xs,H b=some (.frz o (.lst xs))
theorem ni_{P:Program}{w:World}{K:PySem.W.Frag}{mg mb:Str->Option Value}{CX:CXT}{k:Nat}{fa a:Addr}{fd:FuncData}{x:Str}{sp:Sp}{s₁:Shared}{vs:List Value}{ns:List Int}
  (KX:K.In s₁.heap) (hns:s₁.heap.Ns mainGlobals mg) (hb:s₁.heap.Ns builtinsNs mb) (hbb:∀x:Str,x≠"__name__"->mb x=bootBuiltins x) (hlim:s₁.heap.NoLimit) (hg:s₁.gens=#[])
  (ha:s₁.heap.get? a=some {cls:=.type "list",data:=.seq vs.toArray}) (hi:IntsAre vs ns) (hl:ns.length<=sizeLine) (hr:Room k callerA)
  (F:∀base:Heap,K.In base->base.Ns mainGlobals mg->FnOk P w K mg base CX k fa fd [x] sp) (hbind:∀(s:Shared) (u:Value),BindsTo s fd ⟨[u],[]⟩ [(x,u)])
  (hsp:∀H:Hp,Only H->SqL K H a (ns.map V.int)->sp [.ref a] H (fun v _=>v=.bl true) fun _ _ _=>False)
  (hCX:∀H e s',CX [] H s₁ (fun _ _ _=>False) e s'->False) :
  codeAny (model P w) callerA (.call (.ref fa) ⟨[.ref a],[]⟩) (fun r s'=>r=.ok (.ret (.bool true))/\OldK s₁.heap s'.heap/\s'.os=s₁.os/\AllBare s'.gens) s₁:=by
 have rv:=fu_ hi
 have lenV:=hi.length
 have core:∀H:Hp,Only H->SqL K H a (ns.map V.int)->HOk P w H s₁.heap->(∀b,H b≠none->b=a)->(H a≠none->K.lookup a=none)->
   codeAny (model P w) callerA (.call (.ref fa) ⟨[.ref a],[]⟩) (fun r s'=>r=.ok (.ret (.bool true))/\OldK s₁.heap s'.heap/\s'.os=s₁.os/\AllBare s'.gens) s₁:=by
  intro H hO hS hok hA hK
  have base_of:∀ {b:Addr} {o:Obj},s₁.heap.get? b=some o->H b=none->(hidT s₁.heap H).get? b=some o:=fun e n=>nn_ e n
  have noA:∀ {b:Addr} {o:Obj} {es:Array DictEntry} {ep:Nat},s₁.heap.get? b=some o->o.data=.dict es ep->H b=none:=fun {b o es ep} e d=>by
   cases q:H b with
   | none=>rfl
   | some u =>
    have e':b=a:=hA b (by rw[q];simp)
    subst e'
    rw[ha] at e;cases e
    have d':Data.seq vs.toArray _=Data.dict es ep:=d
    cases d'
  have nsK:∀ {b:Addr} {m:Str->Option Value},s₁.heap.Ns b m->(hidT s₁.heap H).Ns b m:=fun {b m} ⟨o,es,ep,e,d,r⟩=>⟨o,es,ep,base_of e (noA e d),d,r⟩
  have hKb:K.In (hidT s₁.heap H):=fun b o e=>base_of (KX b o e) (by
   cases q:H b with
   | none=>rfl
   | some u =>
    have e':b=a:=hA b (by rw[q];simp)
    subst e'
    rw[hK (by rw[q];simp)] at e;cases e)
  have hM:Mod K mg (hidT s₁.heap H):=⟨hKb,nsK hns,⟨mb,nsK hb,hbb⟩,let ⟨mc,h1,h2⟩:=hlim;⟨mc,nsK h1,h2⟩⟩
  have e0:Env0 P w K mg (hidT s₁.heap H) callerA [] s₁ H:=⟨rfl,hM,fun b o e=>pp_ e,Nat.le_of_eq (lF_ _ _),trivial,fun b hb=>absurd (show b∈([]:List Addr) from hb) (by simp),hok,.of_eq hg⟩
  refine codeAny_mono ((F _ hKb (nsK hns)).run callerA [] s₁ H ⟨[.ref a],[]⟩ [.ref a] [.ref a] _ _ hr e0 (hbind s₁ (.ref a)) (.cons rfl .nil) (hsp H hO hS)) fun r s' h=>?_
  cases r with
  | error e=>exact(hCX H e s' h).elim
  | ok fl =>
   cases fl with
   | next=>exact False.elim h
   | brk=>exact False.elim h
   | cont=>exact False.elim h
   | ret u =>
    obtain⟨v,H',os,bare,un,hok',r',q⟩:=h
    have q':v=.bl true:=q
    subst q'
    obtain rfl:u=Value.bool true:=r'
    refine⟨rfl,OldK.of_keep fun b o e=>?_,os,bare⟩
    cases q:H b with
    | none=>exact un.keep b o e q (by intro z;exact absurd (show b∈([]:List Addr) from z) (by simp)) (by simp)
    | some u =>
     rcases hO b with z | ⟨ob,xs,z⟩
     ·rw[q] at z;cases z
     ·have z2:=un.frzs b ob _ z
      obtain⟨e1,_⟩:=hok b _ z
      obtain⟨e2,_⟩:=hok' b _ z2
      rw[e] at e1;cases e1
      exact e2
 cases hk:K.lookup a with
 | some o =>
  have e:=KX a o hk
  rw[ha] at e
  cases e
  refine core (fun _=>none) (fun _=>.inl rfl) (.inr ⟨_,vs.toArray,_,hk,rfl,rfl,rfl,by rw[List.size_toArray,lenV];exact hl,by simpa using rv⟩) (fun b u z=>by have z':(none:Option HO)=some u:=z;cases z') (fun b z=>absurd rfl z) fun z=>absurd rfl z
 | none =>
  refine core (fun b=>if b=a then some (.frz {cls:=.type "list",data:=.seq vs.toArray} (.lst (ns.map V.int))) else none) (fun b=>?_) (.inl (.inr ⟨{cls:=.type "list",data:=.seq vs.toArray},if_pos rfl⟩)) (fun b u z=>?_) (fun b z=>?_) fun _=>hk
  ·by_cases hb:b=a
   ·exact .inr ⟨_,_,if_pos hb⟩
   ·exact .inl (if_neg hb)
  ·by_cases hb:b=a
   ·have z':=(if_pos hb).symm.trans z
    cases z'
    subst hb
    exact⟨ha,by rw[List.length_map];exact hl,vs,_,rv,ha⟩
   ·have z':=(if_neg hb).symm.trans z
    cases z'
  ·by_cases hb:b=a
   ·exact hb
   ·exact absurd (if_neg hb) z
abbrev KOf{K:PySem.W.Frag}{h:Heap}(_:K.In h):PySem.W.Frag:=K
theorem oG_{l:PySem.W.OpenLaw}{n k:Nat}{q:Program}{loose:List Str}{XP:(Str->Option Value)->Heap->Prop}{YP:World->Heap->Prop}{d:DefRec}{K:Params->PySem.W.Frag}{CX:World->CXT}{sp:World->Sp}{x:Str}
  (hn:l.most=some n) (hn2:n<=sizeLine) (hdf:d.params.defaults=[]) (hr:Room k callerA)
  (hY:∀(w:World) (h:Heap),YP w h->(K w.params).In h)
  (F:∀(w:World) (mg:Str->Option Value) (fa:Addr) (h:Heap),(K w.params).In h->h.Ns mainGlobals mg->mg d.name=some (.ref fa)->
   ∃fd:FuncData,(∀(s:Shared) (u:Value),BindsTo s fd ⟨[u],[]⟩ [(x,u)])/\
    ∀base:Heap,(K w.params).In base->base.Ns mainGlobals mg->FnOk l.prog w (K w.params) mg base (CX w) k fa fd [x] (sp w))
  (hsp:∀(w:World) (H:Hp) (a:Addr) (ns:List Int),ns.length<=n->Only H->SqL (K w.params) H a (ns.map V.int)->sp w [.ref a] H (fun v _=>v=.bl true) fun _ _ _=>False)
  (hCX:∀(w:World) (H:Hp) (s:Shared) (e:Value) (s':Shared),CX w [] H s (fun _ _ _=>False) e s'->False) :
  PySem.W.WalkO q loose XP YP l.row.toRowW d [] (fun f vs=>PySem.call f vs):=by
 refine Att.attach_call hn hdf fun w s₀ s₁ mg mb fa o pm cd doc a vs ns G Y ho hd hcd hmg hobj hints hlen hg=>?_
 have KX:=hY w _ Y
 obtain⟨fd,hb,hF⟩:=F w mg fa _ KX G.T.g hmg
 exact ni_ KX G.T.g G.T.b G.T.builtins G.T.nolimit hg hobj hints (Nat.le_trans hlen hn2) hr hF hb (fun H hO hS=>hsp w H a ns hlen hO hS) fun H e s'=>hCX w H s₁ e s'
def bX_(s:Stmt)(j:Nat):Stmt:=match s with
 | .ClassDef _ _ _ body _ _ _ _ _ _ _=>body.getD j (.Pass ⟨0,0,0,0⟩)
 | _=>.Pass ⟨0,0,0,0⟩
def aa_(s:Stmt):Arguments:=match s with
 | .FunctionDef _ a _ _ _ _ _ _ _ _=>a
 | _=>{posonlyargs:=[],args:=[],vararg:=none,kwonlyargs:=[],kw_defaults:=[],kwarg:=none,defaults:=[]}
def v_(s:Stmt):List Stmt:=match s with
 | .FunctionDef _ _ b _ _ _ _ _ _ _=>b
 | _=>[]
def g_(s:Stmt):Scope:=match s with
 | .FunctionDef _ _ _ _ _ _ sc _ _ _=>sc
 | _=>{kind:=.function,names:=[],isGenerator:=false,isCoroutine:=false}
abbrev CX0:CXT:=fun _ _ _ _ _ _=>False
abbrev E0:XK:=fun _ _ _=>False
theorem pass0{X:Cx}:Passes CX0 X E0:=fun _ _ _ _ _ _ _ h=>h.elim
structure Fun(K:PySem.W.Frag)(x qual:Str)(st:Stmt)(f:Addr)(fd:FuncData):Prop where
 ex:∃(oc:Value) (od:Option Addr) (kV doc pm:Value) (an:Option Addr) (cdv ct:Value) (osl:Array (Option Value)),
  fd=PySem.W.fnOf x qual (aa_ st) (v_ st) (g_ st) .none kV doc pm an cdv ct/\K.lookup f=some ⟨oc,od,.func fd,osl⟩/\PySem.W.codeIn K cdv qual=true
 kp:PySem.W.keepIn K (.ref f)=true
section
variable{P:Program}{w:World}{K:PySem.W.Frag}{mg:Str->Option Value}{base:Heap}
theorem Fun.ok{x qual:Str}{st:Stmt}{f:Addr}{fd:FuncData}{N ps:List Str}{k:Nat}{sp:Sp}(F:Fun K x qual st f fd)(S:FnScope N ps (g_ st))(len:∀vs H Q E,sp vs H Q E->vs.length=ps.length)
  (hbody:∀(cdv:Value) (A:Around) (outer:List Env) (s:Shared) (H:Hp) (vs:List V) (Q:VK) (E:XK),Room k (A.deeper (envOfC qual (g_ st) s.heap.objs.size f cdv))->sp vs H Q E->
   ∃t,PSs (cxOf CX0 P w K mg base N qual (g_ st) f cdv A outer s H E).nox (v_ st) t/\t {nx:=fun _ H'=>Q .non H',rt:=Q} (start N vs) H):FnOk P w K mg base CX0 (k+1) f fd ps sp:=by
 obtain⟨oc,od,kV,doc,pm,an,cdv,ct,osl,rfl,lk,hcd⟩:=F.ex
 refine re_ lk hcd S len fun A outer s H vs Q E hr hsp=>?_
 obtain⟨t,h,q⟩:=hbody cdv A outer s H vs Q E hr hsp
 exact⟨t,h.nox,q⟩
theorem Fun.binds{x qual:Str}{st:Stmt}{f:Addr}{fd:FuncData}{ps:List Str}(F:Fun K x qual st f fd)
  (h:∀(kV doc pm:Value) (an:Option Addr) (cdv ct:Value) (us:List Value),us.length=ps.length->bindArgs (PySem.W.fnOf x qual (aa_ st) (v_ st) (g_ st) .none kV doc pm an cdv ct) ⟨us,[]⟩=pure (ps.zip us)):Binds K fd ps []:=by
 obtain⟨oc,od,kV,doc,pm,an,cdv,ct,osl,rfl,lk,hcd⟩:=F.ex
 exact .all (h kV doc pm an cdv ct)
theorem er_{x qual:Str}{st:Stmt}{f:Addr}{oc:Value}{od an:Option Addr}{osl:Array (Option Value)}{kV doc pm cdv ct:Value}(l:K.lookup f=some ⟨oc,od,.func (PySem.W.fnOf x qual (aa_ st) (v_ st) (g_ st) .none kV doc pm an cdv ct),osl⟩)
  (c:PySem.W.codeIn K cdv qual=true) (k:PySem.W.keepIn K (.ref f)=true):Fun K x qual st f (PySem.W.fnOf x qual (aa_ st) (v_ st) (g_ st) .none kV doc pm an cdv ct):=⟨⟨oc,od,kV,doc,pm,an,cdv,ct,osl,rfl,l,c⟩,k⟩
end
theorem jL_{A:Around}{k:Nat}(hr:Room k A):A.units+1<cLine:=Nat.lt_of_le_of_lt (Nat.add_le_add_left (by decide:1<=64) _) hr.units
section
variable{X:Cx}
theorem pv(i:Nat){x:Str}{pos:Pos}(hN:X.N[i]?=some x:=by rfl)(hv:Vis X.env.scope x:=by first | exact Or.inl rfl | exact Or.inr (Or.inl rfl) | exact Or.inr (Or.inr rfl))(hd:(x==("__debug__":Str))=false:=by decide)
  (hcd:(x==("__classdict__":Str))=false:=by decide):PE X (.Name x pos) (tVar i):=qu_ hN hv hd hcd
end
theorem iteF{A B:Prop}(h:B):if false=true then A else B:=by
 rw[if_neg Bool.false_ne_true]
 exact h
theorem iteT{A B:Prop}(h:A):if true=true then A else B:=by
 rw[if_pos rfl]
 exact h
theorem ite2{c A B:Prop}[Decidable c](h1:c->A)(h2:¬ c->B):if c then A else B:=by
 by_cases h:c
 ·rw[if_pos h]
  exact h1 h
 ·rw[if_neg h]
  exact h2 h
theorem iteNS{c A B:Prop}[Decidable c](hc:c)(h:B):if (!decide c)=true then A else B:=by
 rw[decide_eq_true hc]
 exact iteF h
def Same(H H':Hp):Prop:=∀b o,H b=some o->H' b=some o
theorem Same.refl(H:Hp):Same H H:=fun _ _ h=>h
theorem Same.trans{H H1 H2:Hp}(a:Same H H1)(b:Same H1 H2):Same H H2:=fun c o h=>b c o (a c o h)
theorem Same.free{H H':Hp}(e:Same H H'){l:Addr}(h:H' l=Option.none):H l=Option.none:=by
 cases q:H l with
 | none=>rfl
 | some o =>
  rw[e l o q] at h
  cases h
theorem Same.seq{K:PySem.W.Frag}{H H':Hp}{a:Addr}{xs:List V}(e:Same H H')(h:SqL K H a xs):SqL K H' a xs:=by
 rcases h with(h | ⟨o,h⟩) | h
 ·exact .inl (.inl (e _ _ h))
 ·exact .inl (.inr ⟨o,e _ _ h⟩)
 ·exact .inr h
end L2
set_option maxHeartbeats 4000000
namespace L2
open PySem PySem.Spec PyProof.Rows
theorem iX_{al be:Type}{l:List al}{f:al->be->Sem (ForInStep be)}(R:List al->be->Prop):∀(pre rest:List al) (c:be),l=pre++rest->R pre c->
  (∀pre x post c,l=pre++x::post->R pre c->∃d,f x c=pure (.yield d)/\R (pre++[x]) d)->∃d,forIn rest c f=pure d/\R l d
 | pre,[],c,e,h0,_=>⟨c,rfl,by rw[e,List.append_nil];exact h0⟩
 | pre,x::rest,c,e,h0,h=>by
  obtain⟨d,e1,r1⟩:=h pre x rest c e h0
  obtain⟨d',e2,r2⟩:=iX_ R (pre++[x]) rest d (by rw[e];simp) r1 h
  exact⟨d',by rw[List.forIn_cons,e1,pure_bind];exact e2,r2⟩
theorem je_{scope:Scope}{env:Env}(h:∀y,(y,NameKind.free)∈scope.names->∃c,env.cells.lookup y=some c) :
  ∃cl,closureFor scope env=pure cl/\(∀y c,cl.lookup y=some c->env.cells.lookup y=some c)/\∀y,(y,NameKind.free)∈scope.names->∃c,cl.lookup y=some c:=by
 have key:=iX_ (l:=scope.names) (be:=List (Str×Addr)) (f:=fun x r=>if (x.2==NameKind.free)=true then do let a <-cellOf env x.1;pure (ForInStep.yield ((x.1,a)::r)) else pure (ForInStep.yield r))
  (fun pre cs=>(∀y c,cs.lookup y=some c->env.cells.lookup y=some c)/\∀y,(y,NameKind.free)∈pre->∃c,cs.lookup y=some c) [] scope.names [] (by simp)
  ⟨fun y c e=>by simp at e,fun y hy=>by simp at hy⟩ (by
   rintro pre ⟨n,k⟩ post cs e ⟨r1,r2⟩
   by_cases hk:k=NameKind.free
   ·subst hk
    obtain⟨c,hc⟩:=h n (by rw[e];simp)
    refine⟨(n,c)::cs,?_,fun y d q=>?_,fun y hy=>?_⟩
    ·have hco:cellOf env n=pure c:=by unfold cellOf;rw[hc]
     simp only[beq_self_eq_true,if_true,hco,pure_bind]
    ·by_cases hy:y=n
     ·subst hy
      rw[List.lookup_cons,beq_self_eq_true] at q
      cases q;exact hc
     ·have hb:(y==n)=false:=by simpa using hy
      rw[List.lookup_cons,hb] at q
      exact r1 y d q
    ·by_cases hn:y=n
     ·exact⟨c,by rw[hn,List.lookup_cons,beq_self_eq_true]⟩
     ·have hb:(y==n)=false:=by simpa using hn
      rw[List.lookup_cons,hb]
      refine r2 y ?_
      rcases List.mem_append.mp hy with z | z
      ·exact z
      ·simp at z;exact absurd z hn
   ·refine⟨cs,?_,r1,fun y hy=>r2 y ?_⟩
    ·have hb:(k==NameKind.free)=false:=by simpa using hk
     simp only[hb,Bool.false_eq_true,if_false]
    ·rcases List.mem_append.mp hy with z | z
     ·exact z
     ·simp at z;exact absurd z.2.symm hk)
 obtain⟨cl,e,r⟩:=key
 refine⟨cl,?_,r⟩
 have e':closureFor scope env=forIn scope.names ([]:List (Str×Addr)) (fun x r=>if (x.2==NameKind.free)=true then do let a <-cellOf env x.1;pure (ForInStep.yield ((x.1,a)::r)) else pure (ForInStep.yield r)):=by
  simp only[closureFor,bind_pure]
 rw[e',e]
def Cx.cmp(X:Cx)(N:List Str)(scope:Scope)(cl:List (Str×Addr))(C:Addr)(s:Shared)(H:Hp)(fp:List Addr):Cx where
 prog:=X.prog
 w:=X.w
 K:=X.K
 mg:=X.mg
 base:=X.base
 A:=X.A
 N:=N
 s₀:=s
 H₀:=H
 env:=compEnvC scope cl C X.env
 outer:=X.stack
 stack:=X.stack
 ex:=fp
 fn:=fun _=>false
 calm:=X.calm
 pn:=[]
 xe:=fun _ _=>False
theorem iR_{names:List (Str×NameKind)}{q:Str->NameKind->Bool}{y:Str}:(names.map fun(n,k)=>if q n k=true then (n,NameKind.cell) else (n,k)).lookup y=(names.lookup y).map fun k=>if q y k=true then NameKind.cell else k:=by
 induction names with
 | nil=>rfl
 | cons p r ih =>
  obtain⟨n,k⟩:=p
  rw[List.map_cons]
  by_cases hy:y=n
  ·subst hy
   by_cases hq:q y k=true
   ·simp[List.lookup_cons,hq]
   ·simp[List.lookup_cons,hq]
  ·have hb:(y==n)=false:=by simpa using hy
   by_cases hq:q n k=true
   ·simp only[hq,if_true,List.lookup_cons,hb];exact ih
   ·simp only[hq,Bool.false_eq_true,if_false,List.lookup_cons,hb];exact ih
section
variable{X:Cx}{pins:List (Addr×Obj)}{σ:St}{H:Hp}{s:Shared}{fp:List Addr}{scope:Scope}{cl:List (Str×Addr)}{N:List Str}{C:Addr}
structure CmpScope(X:Cx)(N:List Str)(scope:Scope):Prop where
 kind:scope.kind=.function
 nocell:∀y∈scope.names,y.2≠.cell
 loc:∀y∈scope.names,y.2=.local->scope.names.lookup y.1=some .local
 fre:∀y,scope.names.lookup y=some .free->X.env.kindOf y=some .cell
 fre2:∀y,(y,NameKind.free)∈scope.names->X.env.kindOf y=some .cell
 nd:N.Nodup
 at0:∀y,scope.names.lookup y=some .free->(y,NameKind.free)∈scope.names
theorem ro_(S:CmpScope X N scope)(I:Inv X pins σ H s)(hf:∀b∈fp,FpOk X pins H b)(ho:∀b∈fp,∃o,s.heap.get? b=some o)(hcl:∀y c,cl.lookup y=some c->X.env.cells.lookup y=some c)
  (hcf:∀y,(y,NameKind.free)∈scope.names->∃c,cl.lookup y=some c) (hC:s.heap.objs.size<=C):(X.cmp N scope cl C s H fp).Ok where
 mod:=I.ok.mod
 kind:=S.kind
 glob:=I.ok.glob
 blt:=I.ok.blt
 above:=hC
 inj:=fun x y c h1 h2=>I.ok.inj x y c (hcl x c h1) (hcl y c h2)
 has:=fun y hy=>by
  have hy':(relabel scope X.env).names.lookup y=some .cell\/(relabel scope X.env).names.lookup y=some .free:=hy
  have e:(relabel scope X.env).names.lookup y=(scope.names.lookup y).map fun k=>if (k==.free&&X.env.scope.kind==.function&&X.env.kindOf y==some .cell)=true then NameKind.cell else k :=
   iR_ (q:=fun n k=>k==.free&&X.env.scope.kind==.function&&X.env.kindOf n==some .cell)
  rw[e] at hy'
  cases q:scope.names.lookup y with
  | none=>rw[q] at hy';simp at hy'
  | some k =>
   by_cases hk:k=NameKind.free
   ·subst hk
    exact hcf y (S.at0 y q)
   ·exfalso
    have hb:(k==NameKind.free)=false:=by simpa using hk
    rw[q] at hy'
    simp only[Option.map_some,hb,Bool.false_and,Bool.false_eq_true,if_false,Option.some.injEq] at hy'
    rcases hy' with z | z
    ·exact S.nocell _ (PySem.mem_of_lookup q) z
    ·exact hk z
 cab:=fun y c h _=>nomatch h
 hd:=I.ok.hd
 frames:=I.ok.frames
 stk:=.inl rfl
 exf:=fun b hb=>by
  obtain⟨o,e⟩:=ho b hb
  obtain⟨_,_,_,_,f4,_⟩:=hf b hb
  exact⟨Nat.ne_of_lt (Nat.lt_of_lt_of_le (Heap.lt_size e) hC),fun x c q=>f4 x c (hcl x c q)⟩
 bs:=I.bs
 bsz:=Nat.le_trans I.ok.bsz I.sz
 noex:=fun b o e hb=>by
  obtain⟨_,_,_,f3,_,_⟩:=hf b hb
  rcases f3 with z | z
  ·exact I.ok.noex b o e z
  ·exact absurd (Nat.lt_of_lt_of_le (Heap.lt_size e) (Nat.le_trans I.ok.bsz z)) (Nat.lt_irrefl _)
 exfs:=fun b hb z=>by
  obtain⟨_,f1,f2,_⟩:=hf b hb
  rcases List.mem_cons.mp (I.stkSub b z) with e | e
  ·exact f1 e
  ·exact f2 e
 funs:=I.stack
 frf:=I.stkFree
def aE_(k:Nat)(fr:List Nat)(σ:St):St:=List.replicate k none++fr.map fun i=>(σ[i]?).join
structure CmpFree(X:Cx)(N:List Str)(scope:Scope)(k:Nat)(fr:List Nat):Prop where
 len:N.length=k+fr.length
 at1:∀(j i:Nat) (y:Str),fr[j]?=some i->N[k+j]?=some y->X.N[i]?=some y/\scope.names.lookup y=some .free
theorem mh_(S:CmpScope X N scope){k:Nat}{fr:List Nat}(F:CmpFree X N scope k fr)(I:Inv X pins σ H s)(hf:∀b∈fp,FpOk X pins H b)(ho:∀b∈fp,∃o,s.heap.get? b=some o)
  (hcl:∀y c,cl.lookup y=some c->X.env.cells.lookup y=some c) (hcf:∀y,(y,NameKind.free)∈scope.names->∃c,cl.lookup y=some c) (hC:s.heap.objs.size<=C)
  {s1:Shared} {m:Str->Option Value} {D:Addr} {oD:Obj} (hos:s1.os=s.os) (hg:s1.gens=s.gens) (kp:∀b o,s.heap.get? b=some o->s1.heap.get? b=some o) (hn:s1.heap.Ns C m)
  (hD:s1.heap.get? D=some oD) (hD0:s.heap.objs.size<=D) (hDC:D≠C) (hdc:∀v,oD.data≠.cell v) :
  Inv (X.cmp N scope cl C s H fp) [(D,oD)] (aE_ k fr σ) H s1:=by
 have hfs:D∉frs X.stack:=fun z=>by
  obtain⟨_,o,q,_⟩:=I.stack.mem z
  exact absurd (Nat.lt_of_lt_of_le (Heap.lt_size q) hD0) (Nat.lt_irrefl _)
 refine⟨ro_ S I hf ho hcl hcf hC,hos,by rw[hg];exact I.bare,Un.kept kp,⟨m,hn,fun i x v e1 e2 e3=>?_⟩,fun y c e=>?_,I.hok.fresh hC,fun y c e=>I.freeC y c (hcl y c e),fun p hp=>?_,I.hok.kept kp,?_⟩
 ·
  unfold aE_ at e2
  by_cases hi:i<k
  ·rw[List.getElem?_append_left (by simpa using hi),List.getElem?_replicate] at e2
   split at e2 <;> cases e2
  ·obtain⟨j,rfl⟩:∃j,i=k+j:=⟨i-k,by lia⟩
   rw[List.getElem?_append_right (by simp),List.length_replicate,Nat.add_sub_cancel_left,List.getElem?_map] at e2
   cases q:fr[j]? with
   | none=>rw[q] at e2;cases e2
   | some i' =>
    rw[q] at e2
    have e2':(σ[i']?).join=some v:=Option.some.inj e2
    obtain⟨a1,a2⟩:=F.at1 j i' x q e1
    have hk:=S.fre x a2
    obtain⟨m0,hn0,hl0⟩:=I.loc
    have hv:σ[i']?=some (some v):=by
     cases z:σ[i']? with
     | none=>rw[z] at e2';cases e2'
     | some w=>rw[z] at e2';rw[show w=some v from e2']
    obtain⟨u,r,l⟩:=hl0 i' x v a1 hv (.inr (.inl hk))
    refine⟨u,r,.inr ⟨.inl ?_,?_⟩⟩
    ·show(relabel scope X.env).names.lookup x=some .cell
     have e:(relabel scope X.env).names.lookup x=(scope.names.lookup x).map fun k=>if (k==.free&&X.env.scope.kind==.function&&X.env.kindOf x==some .cell)=true then NameKind.cell else k :=
      iR_ (q:=fun n k=>k==.free&&X.env.scope.kind==.function&&X.env.kindOf n==some .cell)
     rw[e,a2,hk,I.ok.kind]
     rfl
    ·obtain⟨c,hc⟩:=hcf x (S.at0 x a2)
     refine⟨c,hc,?_⟩
     rcases l with⟨z,_⟩ | ⟨_,c',hc',z⟩
     ·rw[hk] at z;cases z
     ·have ec:=hcl x c hc
      rw[hc'] at ec;cases ec
      obtain⟨o,ho,hd⟩:=z
      exact⟨o,kp _ _ ho,hd⟩
 ·obtain⟨v,o,q,d⟩:=I.cell y c (hcl y c e)
  exact⟨v,o,kp _ _ q,d⟩
 ·have hp':p=(D,oD):=by simpa [Cx.cmp] using hp
  subst hp'
  exact⟨hD,I.hok.fresh hD0,hDC,hfs,hdc⟩
 ·unfold aE_
  show _=N.length
  rw[List.length_append,List.length_replicate,List.length_map,F.len]
abbrev lstO(its:List Value)(n:Nat):Obj:={cls:=.type "list",data:=.seq its.toArray n}
theorem jc_{σ':St}{H':Hp}{s':Shared}{D:Addr}{its:List Value}{n:Nat}{ys:List V}(I:Inv X pins σ H s)(hf:∀b∈fp,FpOk X pins H b)(J:Inv (X.cmp N scope cl C s H fp) [(D,lstO its n)] σ' H' s')(r:Vals ys its)
  (hz:ys.length<=sizeLine) (hD0:s.heap.objs.size<=D):H' D=none/\Inv X pins σ (upd H' D (.lst ys)) s':=by
 obtain⟨e1,hn,_,_,_⟩:=J.pin (D,lstO its n) (by simp[Cx.cmp])
 have e1:s'.heap.get? D=some (lstO its n):=e1
 have hn:H' D=none:=hn
 have u:=J.base
 have neD:∀b o,s.heap.get? b=some o->b≠D:=fun b o q=>Nat.ne_of_lt (Nat.lt_of_lt_of_le (Heap.lt_size q) hD0)
 have u':Un (frs X.stack) fp H (upd H' D (.lst ys)) s.heap s'.heap :=
  ⟨u.keep,u.slot,fun b o q z hx=>by rw[i_ (neD b o q)];exact u.free b o q z hx,u.there,fun b xs q=>by rw[i_ (k_ (u.tups b xs q) hn)];exact u.tups b xs q,
   fun b o x q=>by rw[i_ (k_ (u.frzs b o x q) hn)];exact u.frzs b o x q,fun b ps q=>by
    obtain⟨more,z⟩:=u.tbls b ps q
    exact⟨more,by rw[i_ (k_ z hn)];exact z⟩⟩
 have hok:HOk X.prog X.w (upd H' D (.lst ys)) s'.heap:=fun b o q=>by
  by_cases hb:b=D
  ·subst hb
   rw[d_] at q
   cases q
   exact⟨hz,its,n,r,e1⟩
  ·rw[i_ hb] at q
   exact(J.hok b o q).stay (fun c v _ z=>z) (fun c z=>by rw[i_ (k_ z hn)];exact z) fun c xs z=>by rw[i_ (k_ z hn)];exact z
 refine⟨hn,?_⟩
 have os:=J.os
 have bare:=J.bare
 obtain⟨hh,g,d,t,os'⟩:=s'
 obtain rfl:os'=s.os:=os
 exact I.call (h':=hh) (g':=g) (d':=d) (t':=t) (ch:=fp) u' hok bare fun b hb=>by
  obtain⟨_,f1,_,f3,f4,f5⟩:=hf b hb
  exact⟨f3,f1,f4,f5⟩
end
def PF(X:Cx)(ifs:List Expr)(t:TT):Prop :=
 ∀(pins:List (Addr×Obj)) (s:Shared) (σ:St) (H:Hp) (Q:Bool->Hp->Prop),Inv X pins σ H s->t σ H Q->
  wpAny (model X.prog X.w) X.A (forIn ifs true fun c r=>if r=true then do let ok <-isTrue c X.env (eval c X.env);pure (ForInStep.yield ok) else pure (ForInStep.yield r)) (TP X pins σ Q) X.xe s
def tTrue:TT:=fun _ H Q=>Q true H
theorem aD_{X:Cx}:PF X [] tTrue:=fun _ _ _ H _ I h=>wpAny_tests_nil ⟨H,I,h⟩
theorem nX_{X:Cx}{c:Expr}{tc:TT}(hc:PT X c tc):PF X [c] tc:=fun pins s σ H Q I h=>wpAny_tests_one (hc pins s σ H Q I h)
section
variable{prog:Program}{w:World}{A:Around}
theorem noE{al:Type}{t:Sem al}{Q:al->Shared->Prop}{E:Value->Shared->Prop}{s:Shared}(h:wpAny (model prog w) A t Q (fun _ _=>False) s):wpAny (model prog w) A t Q E s :=
 wpAny_mono h (fun _ _ x=>x) fun _ _ f=>f.elim
theorem nF_{R:Result->Shared->Prop}{s:Shared}{elt tg iter:Expr}{ifs:List Expr}{scope:Scope}{pos:Pos}{it acc:Value}{env:Env}(I:Nat->Shared->Prop)
  (turn:∀n s,I n s->wpAny (model prog w) A (pyNext it) (fun r s1=>(r=none/\R (.ok .next) s1)\/∃v,r=some v/\
   wpAny (model prog w) A (letOwnedTupleGo tg it v) (fun _ s2=>wpAny (model prog w) A (assign tg env v) (fun _ s3 =>
    wpAny (model prog w) A (forIn ifs true fun c r=>if r=true then do let ok <-isTrue c env (eval c env);pure (ForInStep.yield ok) else pure (ForInStep.yield r)) (fun ok s4 =>
     if ok=true then wpAny (model prog w) A (eval elt env) (fun x s5 =>
      wpAny (model prog w) A (call (.builtin "list.append") [acc,x]) (fun _ s6=>∃m,m<n/\I m s6) (fun _ _=>False) s5) (fun _ _=>False) s4
     else ∃m,m<n/\I m s4) (fun _ _=>False) s3) (fun _ _=>False) s2) (fun _ _=>False) s1) (fun _ _=>False) s)
  (n:Nat) (h:I n s):codeAny (model prog w) A (.compLoop (.ListComp elt [⟨tg,iter,ifs,0⟩] scope pos) 0 it acc env) R s:=by
 refine codeAny_loop rfl I (fun n s hI=>?_) n h
 show wpAny _ A ((compTurn (.ListComp elt [⟨tg,iter,ifs,0⟩] scope pos) 0 it acc env).onRaise (fun x=>do noteFrame x env;theTreesLotGoes x)) _ _ s
 refine wpAny_noted ?_
 rw[compTurn_list]
 refine wpAny_bind (wpAny_standAt (wpAny_bind (noE (thn (turn n s hI) fun r s1 h1=>?_))))
 rcases h1 with⟨rfl,h1⟩ | ⟨v,rfl,h1⟩
 ·exact wpAny_pure h1
 ·refine wpAny_bind (noE (thn h1 fun _ s2 h2=>wpAny_bind (noE (thn h2 fun _ s3 h3=>wpAny_bind (noE (thn h3 fun ok s4 h4=>?_))))))
  cases ok with
  | false=>exact wpAny_pure ⟨rfl,h4⟩
  | true=>exact wpAny_bind (wpAny_bind (noE (thn h4 fun x s5 h5=>wpAny_bind (noE (thn h5 fun _ s6 h6=>wpAny_pure (wpAny_pure ⟨rfl,h6⟩))))))
end
def GKeeps(k:Nat)(g:TG):Prop:=∀v σ H Q,g v σ H Q->g v σ H fun σ2 H2=>(σ2.length=σ.length/\∀i,k<=i->σ2[i]?=σ[i]?)/\Q σ2 H2
theorem lH_{k i:Nat}(h:i<k):GKeeps k (gName i):=fun v σ H Q q=>⟨⟨List.length_set,fun j hj=>List.getElem?_set_ne (by lia)⟩,q⟩
def tComp(k:Nat)(fr:List Nat)(wi:TI)(g:TG)(tc:TT)(te:TE):TE:=fun σ H Q=>wi σ H fun J H1=>∃W:Nat->Nat->List V->Hp->Prop,(∃m,W 0 m [] H1)/\∀i m ys H,W i m ys H->
 (J.stop i H/\∀D,H D=none->Q (.ref D) (upd H D (.lst ys)))\/
 (J.go i H/\ys.length<sizeLine/\∃Nx:List V->Hp->Prop,(∀ys' H',Nx ys' H'->∃m',m'<m/\W (i+1) m' ys' H')/\
  ∀x H',J.yld i H x H'->g x (aE_ k fr σ) H' fun σ2 H2=>tc σ2 H2 fun b H3=>if b=true then te σ2 H3 fun y H4=>Nx (ys++[y]) H4 else Nx ys H3)
section
variable{X:Cx}{pins:List (Addr×Obj)}{σ:St}{tg elt iter:Expr}{ifs:List Expr}{scope:Scope}{pos:Pos}{N:List Str}{k:Nat}{fr:List Nat}{wi:TI}{g:TG}{tc:TT}{te:TE}
theorem gu_(S:CmpScope X N scope)(F:CmpFree X N scope k fr)(hc:X.calm=true)
  (hg:∀cl C s H fp,PG (X.cmp N scope cl C s H fp) tg g) (hk:GKeeps k g) (hi:∀cl C s H fp,PF (X.cmp N scope cl C s H fp) ifs tc) (he:∀cl C s H fp,PE (X.cmp N scope cl C s H fp) elt te)
  {s2:Shared} {it:Addr} {fp:List Addr} {tn:Nat->Heap->Prop} {J:It} {H2:Hp} (I:Inv X pins σ H2 s2) (T:Turn X.prog X.w X.K tg J fp it tn) (st:tn 0 s2.heap) (f2:∀b∈fp,FpOk X pins H2 b)
  {W:Nat->Nat->List V->Hp->Prop} {m0:Nat} (w0:W 0 m0 [] H2) {Fin:List V->Hp->Prop}
  (turn:∀i m ys H,W i m ys H->(J.stop i H/\Fin ys H)\/
   (J.go i H/\ys.length<sizeLine/\∃Nx:List V->Hp->Prop,(∀ys' H',Nx ys' H'->∃m',m'<m/\W (i+1) m' ys' H')/\
    ∀x H',J.yld i H x H'->g x (aE_ k fr σ) H' fun σ2 H2=>tc σ2 H2 fun b H3=>if b=true then te σ2 H3 fun y H4=>Nx (ys++[y]) H4 else Nx ys H3))
  {cl:List (Str×Addr)} (hcl:∀y c,cl.lookup y=some c->X.env.cells.lookup y=some c) (hcf:∀y,(y,NameKind.free)∈scope.names->∃c,cl.lookup y=some c)
  {RR:Value->Addr->Result->Shared->Prop} {E:Value->Shared->Prop}
  (hRR:∀D C s' its n ys H' σ',s2.heap.objs.size<=D->s2.heap.objs.size<=C->D≠C->Inv (X.cmp N scope cl C s2 H2 fp) [(D,lstO its n)] σ' H' s'->Vals ys its->ys.length<=sizeLine->Fin ys H'->RR (.ref D) C (.ok .next) s') :
  wpAny (model X.prog X.w) X.A (newList []) (fun acc s3=>wpAny (model X.prog X.w) X.A (newFunctionEnv scope X.env.globals cl [] X.env.qual none .none (some X.env)) (fun cenv s4 =>
   codeAny (model X.prog X.w) X.A (.compStart (.ListComp elt [⟨tg,iter,ifs,0⟩] scope pos) 0 (.ref it) acc {cenv with scope:=relabel scope X.env}) (RR acc cenv.locals) s4) E s3) E s2:=by
 refine wpAny_newObj_type (wpAny_newFunctionEnv S.nocell (by intro y hy;simp at hy) (fun h1 hns sb=>?_) S.kind)
 dsimp only at hns sb⊢
 generalize hG:s2.heap.push {cls:=.type "list",dict:=none,data:=.seq ([]:List Value).toArray}=G at hns sb⊢
 have hC:G.objs.size=s2.heap.objs.size+1:=by rw[<-hG,Heap.size_push]
 have hDC:s2.heap.objs.size≠G.objs.size:=by rw[hC];exact Nat.ne_of_lt (Nat.lt_succ_self _)
 have old:∀b o,s2.heap.get? b=some o->h1.get? b=some o:=fun b o e =>
  sb.extBut b o (by rw[hC];exact Nat.ne_of_lt (Nat.lt_succ_of_lt (Heap.lt_size e))) (Heap.get?_push_of_some _ (hG▸Heap.get?_push_of_some _ e))
 have hacc:h1.get? s2.heap.objs.size=some (lstO [] 0):=sb.extBut _ _ hDC (Heap.get?_push_of_some _ (hG▸Heap.get?_push_size _ rfl))
 have hfo:∀b∈fp,∃o,s2.heap.get? b=some o:=fun b hb=>let ⟨o,e,_⟩:=T.obj 0 _ st b hb;⟨o,e⟩
 have ltD:∀b∈fp,b≠s2.heap.objs.size:=fun b hb=>let ⟨o,e⟩:=hfo b hb;Nat.ne_of_lt (Heap.lt_size e)
 generalize hX:X.cmp N scope cl G.objs.size s2 H2 fp=X'
 have I0:Inv X' [(s2.heap.objs.size,lstO [] 0)] (aE_ k fr σ) H2 {s2 with heap:=h1,toks:=s2.toks+([]:List (Str×Value)).length}:=by
  rw[<-hX]
  exact mh_ S F I f2 hfo hcl hcf (by rw[hC];exact Nat.le_succ _) rfl rfl old hns hacc (Nat.le_refl _) hDC fun v z=>by cases z
 have eP:X'.prog=X.prog:=by rw[<-hX];rfl
 have eW:X'.w=X.w:=by rw[<-hX];rfl
 have eK:X'.K=X.K:=by rw[<-hX];rfl
 have eA:X'.A=X.A:=by rw[<-hX];rfl
 have eC:X'.calm=true:=by rw[<-hX];exact hc
 have eE:X'.env=compEnvC scope cl G.objs.size X.env:=by rw[<-hX];rfl
 have eX:X'.xe=fun _ _=>False:=by rw[<-hX];rfl
 have eF:X'.ex=fp:=by rw[<-hX];rfl
 have eS:X'.s₀=s2:=by rw[<-hX];rfl
 have ePn:X'.pn=[]:=by rw[<-hX];rfl
 have T':Turn X'.prog X'.w X'.K tg J fp it tn:=by rw[eP,eW,eK];exact T
 have hg':PG X' tg g:=by rw[<-hX];exact hg _ _ _ _ _
 have hi':PF X' ifs tc:=by rw[<-hX];exact hi _ _ _ _ _
 have he':PE X' elt te:=by rw[<-hX];exact he _ _ _ _ _
 have stat:∀ {o:Obj} {H':Hp},(∀b∈fp,H' b=none)->∀b∈fp,FpOk X' [(s2.heap.objs.size,o)] H' b:=fun {o H'} hn b hb=>by
  have ok:=I0.ok
  obtain⟨z1,z2⟩:=ok.exf b (by rw[eF];exact hb)
  refine⟨hn b hb,z1,ok.exfs b (by rw[eF];exact hb),.inl (by rw[eF];exact hb),z2,fun p hp=>?_⟩
  rw[ePn] at hp
  have hp':p=(s2.heap.objs.size,o):=by simpa using hp
  rw[hp']
  exact fun z=>ltD b hb z.symm
 have back:∀ {pl:List (Addr×Obj)} {σ6:St} {H6:Hp} {s6:Shared},Inv X' pl σ6 H6 s6->(σ6.length=(aE_ k fr σ).length/\∀i,k<=i->σ6[i]?=(aE_ k fr σ)[i]?)->Inv X' pl (aE_ k fr σ) H6 s6:=fun {pl σ6 H6 s6} I6 ⟨l1,l2⟩ =>
  I6.weak l1.symm fun i v e=>by
   by_cases hik:i<k
   ·unfold aE_ at e
    rw[List.getElem?_append_left (by simpa using hik),List.getElem?_replicate] at e
    split at e <;> cases e
   ·rw[l2 i (by lia)];exact e
 have loop:codeAny (model X.prog X.w) X.A (.compLoop (.ListComp elt [⟨tg,iter,ifs,0⟩] scope pos) 0 (.ref it) (.ref s2.heap.objs.size) (compEnvC scope cl G.objs.size X.env))
   (RR (.ref s2.heap.objs.size) G.objs.size) {s2 with heap:=h1,toks:=s2.toks+([]:List (Str×Value)).length}:=by
  rw[<-eP,<-eW,<-eA,<-eE]
  refine nF_ (fun n s'=>∃i ys its nn H',Inv X' [(s2.heap.objs.size,lstO its nn)] (aE_ k fr σ) H' s'/\Vals ys its/\ys.length<=sizeLine/\tn i s'.heap/\(∀b∈fp,H' b=none)/\W i n ys H') ?_ m0
   ⟨0,[],[],0,H2,I0,.nil,Nat.zero_le _,T.keep _ _ _ st fun b _ o e=>old b o e,fun b hb=>(f2 b hb).1,w0⟩
  rintro n s' ⟨i,ys,its,nn,H',I',rv,hz,st',fr',w'⟩
  rcases turn i n ys H' w' with⟨stop,fin⟩ | ⟨go,hlt,Nx,hN,step⟩
  ·refine thn (T'.done X' rfl rfl rfl eC i _ s' _ H' _ I' (stat fr') st' stop) fun r s1 ⟨hr,I1⟩=>.inl ⟨hr,?_⟩
   rw[<-hX] at I1
   exact hRR _ _ s1 its nn ys H' _ (Nat.le_refl _) (by rw[hC];exact Nat.le_succ _) hDC I1 rv hz fin
  ·refine thn (T'.item X' rfl rfl rfl eC i _ s' _ H' _ I' (stat fr') st' go) fun r s1 ⟨u,hr,h4⟩=>.inr ⟨u,hr,thn h4 fun _ s5 ⟨x,H5,I5,r5,y5,st5,fr5⟩=>?_⟩
   have I5':=I5.pinned (stat fr5) (T.obj _ _ st5)
   have hgx:=hg' _ s5 _ H5 x u _ I5' r5 (hk _ _ _ _ (step x H5 y5))
   rw[eX] at hgx
   refine thn hgx fun _ s6 ⟨σ6,H6,I6,l6,q6⟩=>?_
   have hix:=hi' _ s6 σ6 H6 _ I6 q6
   rw[eX] at hix
   have pinD:∀ {σ7:St} {H7:Hp} {s7:Shared},Inv X' ([(s2.heap.objs.size,lstO its nn)]++cS_ fp s5.heap) σ7 H7 s7->s7.heap.get? s2.heap.objs.size=some (lstO its nn)/\H7 s2.heap.objs.size=none/\s2.heap.objs.size≠X'.env.locals:=fun I7=>by
    obtain⟨z1,z2,z3,_⟩:=I7.pin (s2.heap.objs.size,lstO its nn) (List.mem_append_right _ (List.mem_append_left _ (by simp)))
    exact⟨z1,z2,z3⟩
   have iter2:∀ {σ7:St} {H7:Hp} {s7:Shared},Inv X' ([(s2.heap.objs.size,lstO its nn)]++cS_ fp s5.heap) σ7 H7 s7->tn (i+1) s7.heap/\∀b∈fp,H7 b=none:=fun {σ7 H7 s7} I7 =>
    ⟨T.keep _ _ _ st5 fun b hb o e=>(I7.pin (b,o) (List.mem_append_right _ (List.mem_append_right _ (bD_ hb e)))).1,fun b hb=>by
     obtain⟨o,e,d⟩:=T.obj _ _ st5 b hb
     exact(I7.pin (b,o) (List.mem_append_right _ (List.mem_append_right _ (bD_ hb e)))).2.1⟩
   refine thn hix fun ok s7 ⟨H7,I7,q7⟩=>?_
   cases ok with
   | false =>
    obtain⟨m',hm,w7⟩:=hN _ _ (show Nx ys H7 from q7)
    obtain⟨a1,a2⟩:=iter2 I7
    exact⟨m',hm,i+1,ys,its,nn,H7,back I7.unpinned l6,rv,hz,a1,a2,w7⟩
   | true =>
    have hex:=he' _ s7 σ6 H7 _ I7 (show te σ6 H7 _ from q7)
    rw[eX] at hex
    refine thn hex fun v s8 ⟨y,H8,I8,r8,q8⟩=>?_
    obtain⟨z1,z2,z3⟩:=pinD I8
    obtain⟨a1,a2⟩:=iter2 I8
    obtain⟨m',hm,w8⟩:=hN _ _ q8
    have hl:=rv.length
    refine append_at (hsz:=by show its.toArray.size<=sizeLine;rw[List.size_toArray];lia) z1 fun h9 sb9 hD9=>?_
    have I8':Inv X' (cS_ fp s5.heap) (aE_ k fr σ) H8 s8:=(back I8 l6).pins_of fun p hp=>I8.pin p (List.mem_append_right _ (List.mem_append_right _ hp))
    have I9:Inv X' (cS_ fp s5.heap) (aE_ k fr σ) H8 {s8 with heap:=h9}:=I8'.turned (t':=s8.toks) (it:=s2.heap.objs.size) (fun b o hb e=>(sb9.2 b hb).trans e) z2 z3 (.inr (by rw[eS];exact Nat.le_refl _))
     (fun y c e z=>by
      obtain⟨v',q⟩:=I0.cell y c e
      have hcl':cl.lookup y=some c:=by rw[eE] at e;exact e
      obtain⟨v2,q2⟩:=I.cell y c (hcl y c hcl')
      rw[z] at q2
      exact absurd q2.lt (Nat.lt_irrefl _))
     (fun p hp z=>by
      rw[ePn] at hp
      exact ltD p.1 (gg_ hp).1 z)
    have I9':Inv X' [(s2.heap.objs.size,lstO (its++[v]) (nn+1))] (aE_ k fr σ) H8 {s8 with heap:=h9}:=I9.pins_of fun p hp=>by
     have hp':p=(s2.heap.objs.size,lstO (its++[v]) (nn+1)):=by simpa using hp
     rw[hp']
     refine⟨?_,z2,z3,?_,fun v z=>by cases z⟩
     ·show h9.get? _=_
      rw[hD9]
      simp[lstO]
     ·exact(I8.pin (s2.heap.objs.size,lstO its nn) (List.mem_append_right _ (List.mem_append_left _ (by simp)))).2.2.2.1
    refine⟨m',hm,i+1,ys++[y],its++[v],nn+1,H8,I9',rv.append (.cons r8 .nil),by rw[List.length_append];simp;lia,?_,a2,w8⟩
    exact T.keep _ _ _ a1 fun b hb o e=>(sb9.2 b (ltD b hb)).trans e
 exact codeAny_compStart_list loop (T.self _ 0 _ _ _ (T.keep _ _ _ st fun b _ o e=>old b o e) loop)
theorem mi_{s2 s':Shared}{fp:List Addr}{cl:List (Str×Addr)}{H2 H':Hp}{σ':St}{D C:Addr}{o:Obj}{u:HO}{h':Heap}{σ0:St}(I:Inv X pins σ H2 s2)(hC:s2.heap.objs.size<=C)(hDC:D≠C)
  (J:Inv (X.cmp N scope cl C s2 H2 fp) [(D,o)] σ' H' s') {s9:Shared} (I':Inv X pins σ0 (upd H' D u) s9) (sb:Heap.SameBut C s9.heap h'):Inv X pins σ0 (upd H' D u) {s9 with heap:=h'}:=by
 refine I'.turned (t':=s9.toks) (it:=C) (fun b o hb e=>(sb.2 b hb).trans e) (by rw[i_ (Ne.symm hDC)];exact J.free) (Nat.ne_of_gt (Nat.lt_of_lt_of_le I.lt hC)) (.inr (Nat.le_trans I.sz hC)) (fun y c e z=>?_) fun p hp z=>?_
 ·obtain⟨v,q⟩:=I.cell y c e
  exact absurd (Nat.lt_of_lt_of_le q.lt (by rw[z];exact hC)) (Nat.lt_irrefl _)
 ·exact absurd (Nat.lt_of_lt_of_le (Heap.lt_size (I.pin p hp).1) (by rw[z];exact hC)) (Nat.lt_irrefl _)
theorem hn_(S:CmpScope X N scope)(F:CmpFree X N scope k fr)(hc:X.calm=true)(hit:PI X tg iter wi)
  (hg:∀cl C s H fp,PG (X.cmp N scope cl C s H fp) tg g) (hk:GKeeps k g) (hi:∀cl C s H fp,PF (X.cmp N scope cl C s H fp) ifs tc) (he:∀cl C s H fp,PE (X.cmp N scope cl C s H fp) elt te)
  (hs:∀x,foldedSetIterable iter X.env x=pure x:=by intro _;rfl):PE X (.ListComp elt [⟨tg,iter,ifs,0⟩] scope pos) (tComp k fr wi g tc te):=by
 intro pins s σ H Q I h
 rw[eval_ListComp]
 obtain⟨cl,ecl,hcl,hcf⟩:=je_ (scope:=scope) (env:=X.env) fun y hy=>I.ok.has y (.inl (S.fre2 y hy))
 refine wpAny_comprehension_free (use:=none) rfl hs ecl S.kind S.loc (thn (hit pins s σ H _ I h) fun v s1 h1=>thn h1 fun itv s2 h2=>?_)
 obtain⟨it,fp,tn,J,H2,e,I2,T,st2,f2,W,⟨m0,w0⟩,turn⟩:=h2
 subst e
 refine gu_ S F hc hg hk hi he I2 T st2 f2 w0 (Fin:=fun ys H'=>∀D,H' D=none->Q (.ref D) (upd H' D (.lst ys))) turn hcl hcf (RR:=fun acc C=>compPost (model X.prog X.w) X.A X.xe none (EP X pins σ Q) acc C) ?_
 intro D C s' its n ys H' σ' hD hC hDC J' rv hz fin
 obtain⟨hn,I'⟩:=jc_ I2 f2 J' rv hz hD
 obtain⟨m,hm,_⟩:=J'.loc
 exact⟨m,hm,fun h' sb=>⟨.ref D,_,mi_ I2 hC hDC J' I' sb,rfl,fin D hn⟩⟩
theorem hj_{i:Nat}{y:Str}{py spos:Pos}(hN:X.N.Nodup)(hi':X.N[i]?=some y)(hx:Loc X.env.scope y)(S:CmpScope X N scope)(F:CmpFree X N scope k fr)(hc:X.calm=true)(hit:PI X tg iter wi)
  (hg:∀cl C s H fp,PG (X.cmp N scope cl C s H fp) tg g) (hk:GKeeps k g) (hi:∀cl C s H fp,PF (X.cmp N scope cl C s H fp) ifs tc) (he:∀cl C s H fp,PE (X.cmp N scope cl C s H fp) elt te)
  (hsw:swapsWith (.ListComp elt [⟨tg,iter,ifs,0⟩] scope pos) (some (.Name y py)) spos.line X.env=pure true)
  (hs:∀x,foldedSetIterable iter X.env x=pure x:=by intro _;rfl) (hf:X.fn y=true\/X.env.scope.names.lookup y=some .local:=by first | exact .inl rfl | exact .inr rfl | assumption) :
  PS X (.Assign [.Name y py] (.ListComp elt [⟨tg,iter,ifs,0⟩] scope pos) spos) (tAsg (tComp k fr wi g tc te) (gName i)):=by
 intro pins s σ H D0 I h
 obtain⟨cl,ecl,hcl,hcf⟩:=je_ (scope:=scope) (env:=X.env) fun y hy=>I.ok.has y (.inl (S.fre2 y hy))
 rw[exec_Assign_Name_used _ _ _ _ hsw]
 refine wpAny_bind (wpAny_standAt (wpAny_bind ?_))
 show wpAny _ X.A (do let _ <-comprehension (.ListComp elt [⟨tg,iter,ifs,0⟩] scope pos) scope X.env _ (newList []) false (eval iter X.env) (some (assign (.Name y py) X.env))) _ _ s
 refine wpAny_bind (wpAny_mono (wpAny_comprehension_free (use:=some (assign (.Name y py) X.env)) (Q:=fun _ s'=>SP X pins D0 .next s') rfl hs ecl S.kind S.loc
  (thn (hit pins s σ H _ I h) fun v s1 h1=>thn h1 fun itv s2 h2=>?_)) (fun _ s' hq=>wpAny_pure (wpAny_pure hq)) fun _ _ e=>e)
 obtain⟨it,fp,tn,J,H2,e,I2,T,st2,f2,W,⟨m0,w0⟩,turn⟩:=h2
 subst e
 refine gu_ S F hc hg hk hi he I2 T st2 f2 w0 (Fin:=fun ys H'=>∀D,H' D=none->D0.nx (σ.set i (some (.ref D))) (upd H' D (.lst ys))) turn hcl hcf
  (RR:=fun acc C=>compPost (model X.prog X.w) X.A X.xe (some (assign (.Name y py) X.env)) (fun _ s'=>SP X pins D0 .next s') acc C) ?_
 intro D C s' its n ys H' σ' hD hC hDC J' rv hz fin
 obtain⟨hn,I'⟩:=jc_ I2 f2 J' rv hz hD
 obtain⟨m,hm,_⟩:=J'.loc
 show wpAny _ _ (assign (.Name y py) X.env (.ref D)) _ _ s'
 refine wpAny_assign_Name (fB_ I' hN hi' hx (v:=.ref D) rfl (fun s9 I9 ⟨a,sba,ha⟩=>?_) hf)
 have hCa:C≠a:=by
  rcases ha with z | z
  ·rw[z];exact Nat.ne_of_gt (Nat.lt_of_lt_of_le I2.lt hC)
  ·obtain⟨v,q⟩:=I2.cell y a z
   exact fun z=>absurd (Nat.lt_of_lt_of_le q.lt (by rw[<-z];exact hC)) (Nat.lt_irrefl _)
 exact⟨m,hm.sameBut sba hCa,fun h' sb=>⟨_,_,mi_ I2 hC hDC J' I9 sb,fin D hn⟩⟩
end
def cmpOk(sc scope:Scope)(NX N:List Str)(k:Nat)(fr:List Nat):Bool :=
 scope.names.all (fun p=>p.2 != .cell)&&(scope.names.all (fun p=>p.2 != .local || scope.names.lookup p.1==some .local)&&(scope.names.all (fun p=>p.2 != .free || sc.names.lookup p.1==some .cell) &&
  (decide N.Nodup&&(N.length==k+fr.length&&(fr.zip (N.drop k)).all fun q=>NX[q.1]?==some q.2&&scope.names.lookup q.2==some .free))))
theorem cmpS{X:Cx}{sc scope:Scope}{NX N:List Str}{k:Nat}{fr:List Nat}(hX:X.env.scope=sc)(hk:scope.kind=.function)(h:cmpOk sc scope NX N k fr=true):CmpScope X N scope:=by
 unfold cmpOk at h
 simp only[Bool.and_eq_true,List.all_eq_true,decide_eq_true_eq] at h
 obtain⟨h1,h2,h3,h4,h5,h6⟩:=h
 have f2:∀y,(y,NameKind.free)∈scope.names->X.env.kindOf y=some .cell:=fun y hy=>by
  have:=h3 _ hy
  show X.env.scope.names.lookup y=some .cell
  rw[hX]
  simpa using this
 refine⟨hk,fun y hy=>by simpa using h1 y hy,fun y hy e=>?_,fun y e=>f2 y (PySem.mem_of_lookup e),f2,h4,fun y e=>PySem.mem_of_lookup e⟩
 have:=h2 y hy
 rw[e] at this
 simpa using this
theorem cmpF{X:Cx}{sc scope:Scope}{NX N:List Str}{k:Nat}{fr:List Nat}(hN:X.N=NX)(h:cmpOk sc scope NX N k fr=true):CmpFree X N scope k fr:=by
 unfold cmpOk at h
 simp only[Bool.and_eq_true,List.all_eq_true,decide_eq_true_eq] at h
 obtain⟨h1,h2,h3,h4,h5,h6⟩:=h
 refine⟨by simpa using h5,fun j i y e1 e2=>?_⟩
 have hm:(i,y)∈fr.zip (N.drop k):=by
  refine List.mem_of_getElem? (i:=j) ?_
  rw[List.getElem?_zip_eq_some]
  exact⟨e1,by rw[List.getElem?_drop];exact e2⟩
 have:=h6 _ hm
 rw[hN]
 simpa using this
section
variable{X:Cx}{elt iter:Expr}{ifs:List Expr}{scope:Scope}{pos px:Pos}{wi:TI}{tc:TT}{te:TE}{x:Str}
theorem ou_{sc scope:Scope}{NX N:List Str}{k:Nat}{fr:List Nat}(h:cmpOk sc scope NX N k fr=true):N.Nodup:=by
 unfold cmpOk at h
 simp only[Bool.and_eq_true,decide_eq_true_eq] at h
 exact h.2.2.2.1
theorem bt_(sc:Scope)(NX:List Str)(fs:List Str)(fr:List Nat)(hc:X.calm=true)(hit:PI X (.Name x px) iter wi)(hi:∀cl C s H fp,PF (X.cmp (x::fs) scope cl C s H fp) ifs tc)(he:∀cl C s H fp,PE (X.cmp (x::fs) scope cl C s H fp) elt te)
  (ok:cmpOk sc scope NX (x::fs) 1 fr=true) (hX:X.env.scope=sc:=by rfl) (hN:X.N=NX:=by rfl) (hk:scope.kind=.function:=by rfl) (hx:scope.names.lookup x=some .local:=by rfl)
  (hs:∀x,foldedSetIterable iter X.env x=pure x:=by intro _;rfl):PE X (.ListComp elt [⟨.Name x px,iter,ifs,0⟩] scope pos) (tComp 1 fr wi (gName 0) tc te) :=
 hn_ (cmpS hX hk ok) (cmpF hN ok) hc hit (fun cl C s H fp=>p_ (i:=0) (ou_ ok) rfl (Or.inl (lookup_relabel_local hx)) (.inr (lookup_relabel_local hx))) (lH_ (by decide)) hi he hs
theorem eV_(sc:Scope)(NX:List Str)(fs:List Str)(fr:List Nat){i:Nat}{y:Str}{py spos:Pos}(hNd:X.N.Nodup)(hi':X.N[i]?=some y)(hy:Loc X.env.scope y)(hc:X.calm=true)(hit:PI X (.Name x px) iter wi)
  (hi:∀cl C s H fp,PF (X.cmp (x::fs) scope cl C s H fp) ifs tc) (he:∀cl C s H fp,PE (X.cmp (x::fs) scope cl C s H fp) elt te)
  (ok:cmpOk sc scope NX (x::fs) 1 fr=true) (hsw:swapsWith (.ListComp elt [⟨.Name x px,iter,ifs,0⟩] scope pos) (some (.Name y py)) spos.line X.env=pure true)
  (hX:X.env.scope=sc:=by rfl) (hN:X.N=NX:=by rfl) (hk:scope.kind=.function:=by rfl) (hx:scope.names.lookup x=some .local:=by rfl)
  (hs:∀x,foldedSetIterable iter X.env x=pure x:=by intro _;rfl) (hf:X.fn y=true\/X.env.scope.names.lookup y=some .local:=by first | exact .inl rfl | exact .inr rfl | assumption) :
  PS X (.Assign [.Name y py] (.ListComp elt [⟨.Name x px,iter,ifs,0⟩] scope pos) spos) (tAsg (tComp 1 fr wi (gName 0) tc te) (gName i)) :=
 hj_ hNd hi' hy (cmpS hX hk ok) (cmpF hN ok) hc hit (fun cl C s H fp=>p_ (i:=0) (ou_ ok) rfl (Or.inl (lookup_relabel_local hx)) (.inr (lookup_relabel_local hx))) (lH_ (by decide)) hi he hsw hs hf
end
theorem bG_{lo:Int}{n:Nat}{G:V->Hp->(List V->Hp->Prop)->List V->Prop}{Fin:List V->Hp->Prop}{H:Hp}(Pv:Nat->List V->Hp->Prop)(h0:Pv 0 [] H)
  (hs:∀i ys H,i<n->Pv i ys H->ys.length<sizeLine/\G (.int (lo+i)) H (Pv (i+1)) ys) (hd:∀ys H,Pv n ys H->Fin ys H) :
  ∃W:Nat->Nat->List V->Hp->Prop,(∃m,W 0 m [] H)/\∀i m ys H,W i m ys H->
   ((Itr lo n).stop i H/\Fin ys H)\/((Itr lo n).go i H/\ys.length<sizeLine/\∃Nx:List V->Hp->Prop,(∀ys' H',Nx ys' H'->∃m',m'<m/\W (i+1) m' ys' H')/\∀x H',(Itr lo n).yld i H x H'->G x H' Nx ys):=by
 refine⟨fun i m ys H=>m=n-i/\i<=n/\Pv i ys H,⟨n,by simp,Nat.zero_le _,h0⟩,?_⟩
 rintro i m ys H ⟨rfl,hi,p⟩
 by_cases hlt:i<n
 ·obtain⟨a1,a2⟩:=hs i ys H hlt p
  refine .inr ⟨hlt,a1,Pv (i+1),fun ys' H' p'=>⟨n-(i+1),by lia,rfl,hlt,p'⟩,fun x H' y=>?_⟩
  obtain⟨e,y⟩:=y
  subst e y
  exact a2
 ·have e:i=n:=by lia
  subst e
  exact .inl ⟨Nat.le_refl _,hd ys H p⟩
theorem ab_{K:PySem.W.Frag}{a:Addr}{xs:List V}{G:V->Hp->(List V->Hp->Prop)->List V->Prop}{Fin:List V->Hp->Prop}{H:Hp}(Pv:Nat->List V->Hp->Prop)(h0:Pv 0 [] H)(hl:∀i ys H,i<=xs.length->Pv i ys H->SqL K H a xs)
  (hs:∀i x ys H,xs[i]?=some x->Pv i ys H->ys.length<sizeLine/\G x H (Pv (i+1)) ys) (hd:∀ys H,Pv xs.length ys H->Fin ys H) :
  ∃W:Nat->Nat->List V->Hp->Prop,(∃m,W 0 m [] H)/\∀i m ys H,W i m ys H->
   ((Itl K a).stop i H/\Fin ys H)\/((Itl K a).go i H/\ys.length<sizeLine/\∃Nx:List V->Hp->Prop,(∀ys' H',Nx ys' H'->∃m',m'<m/\W (i+1) m' ys' H')/\∀x H',(Itl K a).yld i H x H'->G x H' Nx ys):=by
 refine⟨fun i m ys H=>m=xs.length-i/\i<=xs.length/\Pv i ys H,⟨xs.length,by simp,Nat.zero_le _,h0⟩,?_⟩
 rintro i m ys H ⟨rfl,hi,p⟩
 have q:=hl i ys H hi p
 by_cases hlt:i<xs.length
 ·obtain⟨a1,a2⟩:=hs i xs[i] ys H (by simp[hlt]) p
  refine .inr ⟨⟨xs,xs[i],q,by simp[hlt]⟩,a1,Pv (i+1),fun ys' H' p'=>⟨xs.length-(i+1),by lia,rfl,hlt,p'⟩,fun x H' y=>?_⟩
  obtain⟨e,y⟩:=y
  subst e
  have hx:=y xs q
  rw[show xs[i]?=some xs[i] by simp[hlt]] at hx
  cases hx
  exact a2
 ·have e:i=xs.length:=by lia
  subst e
  exact .inl ⟨⟨xs,q,Nat.le_refl _⟩,hd ys H p⟩
section
variable{X:Cx}
theorem ap_:CallR X (.builtin "isinstance") (fun xs H Q=>∃x t c b,xs=[x,.ty c]/\TyOf X.K H x t/\PySem.W.kitOne X.K t (.type c)=some b/\Q (.bl b) H):=by
 intro pins s σ H xs us Q I r h
 obtain⟨x,t,c,b,rfl,ty,e,q⟩:=h
 obtain⟨u,v,rfl,rx,ry⟩:=vals2 r
 cases ry
 exact lB_ I rx ty e fun tk=>⟨.bl b,H,I.tok tk,rfl,q⟩
theorem seen{pins:List (Addr×Obj)}{σ:St}{H:Hp}{s:Shared}{l:Addr}{h':Heap}{tk:Nat}(I:Inv X pins σ H s)(hk:∀b o,b∉[s.heap.objs.size]->(s.heap.push {cls:=.type "list_iterator",data:=.fields #[.ref l,.int 0 0]}).get? b=some o->h'.get? b=some o) :
  Inv X pins σ H {s with heap:=h',toks:=tk}:=I.kept (old_kept hk)
theorem mq_{bs:List Bool}:((List.range bs.length).all fun i=>(bs[i]?).getD true)=bs.all id:=by
 induction bs with
 | nil=>rfl
 | cons b r ih =>
  rw[List.length_cons,List.range_succ_eq_map,List.all_cons,List.all_map,List.all_cons]
  congr 1
theorem nG_(hc:X.calm=true):CallR X (.builtin "all") (fun xs H Q=>∃(p:Addr) (bs:List Bool),xs=[.ref p]/\SqL X.K H p (bs.map V.bl)/\Q (.bl (bs.all id)) H):=by
 intro pins s σ H xs us Q I r h
 obtain⟨p,bs,rfl,hq,q⟩:=h
 obtain⟨u,rfl,rx⟩:=vals1 r
 cases rx
 obtain⟨its,rv,pl,hz⟩:=I.list hq
 have hl:=pl.isList
 have hlt:p<s.heap.objs.size:=by obtain⟨_,e,_⟩:=hl;exact Heap.lt_size e
 have hn:its.toArray.size=bs.length:=by rw[List.size_toArray,<-rv.length,List.length_map]
 refine call_all_walk (wpAny_pyIter_list hl ?_)
 refine⟨_,_,_,_,_,_,fun i=>(bs[i]?).getD true,rfl,Walks.list (A:=X.A.in1) (I.ok.hd hc) s.heap.objs.size p (Nat.ne_of_lt hlt) its.toArray,⟨⟨_,Heap.get?_push_size _ rfl,rfl,rfl⟩,hl.push _⟩,?_,fun h' tk hk=>?_⟩
 ·intro i v s' Q' E' hP hQ
  have hv:its[i]?=some v:=by simpa using hP
  cases eb:bs[i]? with
  | none =>
   have:=rv.none_of (i:=i) (by rw[List.getElem?_map,eb];rfl)
   rw[this] at hv;cases hv
  | some b =>
   obtain⟨u,hu,ru⟩:=rv.get (i:=i) (x:=.bl b) (by rw[List.getElem?_map,eb];rfl)
   rw[hu] at hv;cases hv
   cases ru
   refine wpAny_truthy_bool ?_
   have e:(bs[i]?).getD true=b:=by rw[eb];rfl
   rw[<-e];exact hQ
 ·rw[hn,mq_]
  exact⟨.bl _,H,(show Inv X pins σ H {s with heap:=h',toks:=tk} from seen I hk),rfl,q⟩
theorem ci_(ns:List Int):∀k,k<=ns.length->preSum (fun i=>(ns[i]?).getD 0) k=(ns.take k).sum
 | 0,_=>by simp[preSum]
 | k+1,h=>by
  have e:ns[k]?=some (ns[k]'(by lia)):=by simp
  rw[preSum,ci_ ns k (by lia),List.take_add_one,e,List.sum_append]
  simp
theorem fz_{B:Int}:∀(ns:List Int),(∀n∈ns,-B<=n/\n<=B)->-(ns.length*B)<=ns.sum/\ns.sum<=ns.length*B
 | [],_=>by simp
 | n::r,h=>by
  have h1:=h n (by simp)
  have h2:=fz_ r fun m hm=>h m (List.mem_cons_of_mem _ hm)
  rw[List.sum_cons,List.length_cons]
  have e:((r.length+1:Nat):Int)*B=r.length*B+B:=by rw[Int.natCast_add,Int.add_mul];simp
  lia
theorem mj_(hc:X.calm=true):CallR X (.builtin "sum") (fun xs H Q=>∃(p:Addr) (ns:List Int),xs=[.ref p]/\SqL X.K H p (ns.map V.int)/\(ns.length<=1000/\∀n∈ns,-1000000000<=n/\n<=1000000000)/\Q (.int ns.sum) H):=by
 intro pins s σ H xs us Q I r h
 obtain⟨p,ns,rfl,hq,⟨hb0,hb⟩,q⟩:=h
 obtain⟨u,rfl,rx⟩:=vals1 r
 cases rx
 obtain⟨its,rv,pl,hz⟩:=I.list hq
 have hl:=pl.isList
 have hlt:p<s.heap.objs.size:=by obtain⟨_,e,_⟩:=hl;exact Heap.lt_size e
 have hn:its.toArray.size=ns.length:=by rw[List.size_toArray,<-rv.length,List.length_map]
 refine call_sum_walk (wpAny_pyIter_list hl ?_)
 refine⟨_,_,_,_,_,_,fun i=>(ns[i]?).getD 0,rfl,Walks.list (A:=X.A.in1) (I.ok.hd hc) s.heap.objs.size p (Nat.ne_of_lt hlt) its.toArray,⟨⟨_,Heap.get?_push_size _ rfl,rfl,rfl⟩,hl.push _⟩,fun b hb'=>?_,fun i v hP=>?_,fun j hj=>?_,fun h' tk t' hk=>?_⟩
 ·show b<(s.heap.push _).objs.size
  rw[Heap.size_push]
  rcases List.mem_cons.mp hb' with rfl | hb'
  ·exact Nat.lt_succ_self _
  ·have e:b=p:=by simpa using hb'
   rw[e];exact Nat.lt_succ_of_lt hlt
 ·have hv:its[i]?=some v:=by simpa using hP
  cases eb:ns[i]? with
  | none =>
   have:=rv.none_of (i:=i) (by rw[List.getElem?_map,eb];rfl)
   rw[this] at hv;cases hv
  | some b =>
   obtain⟨u,hu,ru⟩:=rv.get (i:=i) (x:=.int b) (by rw[List.getElem?_map,eb];rfl)
   rw[hu] at hv;cases hv
   obtain⟨t,rfl⟩:=ru
   exact⟨t,by simp[eb]⟩
 ·rw[hn] at hj
  have e:ns[j]?=some ns[j]:=by simp[hj]
  have b1:=hb ns[j] (List.getElem_mem hj)
  have b2:=fz_ (B:=1000000000) (ns.take (j+1)) fun m hm=>hb m (List.mem_of_mem_take hm)
  rw[ci_ ns (j+1) (by lia)]
  have e3:(ns.take (j+1)).length=j+1:=by rw[List.length_take];lia
  rw[e3] at b2
  refine⟨⟨?_,?_⟩,?_,?_⟩
  ·show _<=(ns[j]?).getD 0
   rw[e];show _<=ns[j];lia
  ·show(ns[j]?).getD 0<_
   rw[e];show ns[j]<_;lia
  ·lia
  ·lia
 ·rw[hn,ci_ ns ns.length (Nat.le_refl _),List.take_length]
  exact⟨.int _,H,(show Inv X pins σ H {s with heap:=h',toks:=tk} from seen I hk),⟨_,rfl⟩,q⟩
def DatV(P:Program)(w:World)(H:Hp)(x:V)(d:PyData):Prop:=∀(h:Heap) (v:Value),HOk P w H h->RelV x v->∃as,Reads h v d as
section
variable{P:Program}{w:World}{H:Hp}
theorem datI(i:Int):DatV P w H (.int i) (.int i):=fun h v _ r=>by obtain⟨t,rfl⟩:=r;exact⟨_,.int i t⟩
theorem datS(x:Str):DatV P w H (.str x) (.str x):=fun h v _ r=>by obtain⟨t,rfl⟩:=r;exact⟨_,.str x t⟩
theorem dats{h:Heap}(ok:HOk P w H h){xs:List V}{its:List Value}{ds:List PyData}(a:Vals xs its)(b:Paired (DatV P w H) xs ds):∃as,ReadsAll h its ds as:=by
 induction a generalizing ds with
 | nil=>cases b;exact⟨_,.nil⟩
 | cons r t ih =>
  cases b with
  | cons q u =>
   obtain⟨as,h1⟩:=q _ _ ok r
   obtain⟨bs,h2⟩:=ih u
   exact⟨_,.cons h1 h2⟩
theorem datL{a:Addr}{xs:List V}{ds:List PyData}(e:H a=some (.lst xs))(r:Paired (DatV P w H) xs ds):DatV P w H (.ref a) (.list ds):=fun h v ok rv=>by
 cases rv
 obtain⟨_,its,n,rs,e1⟩:=ok a _ e
 obtain⟨as,h1⟩:=dats ok rs r
 exact⟨_,.list e1 rfl rfl (by simpa using h1)⟩
theorem datT{a:Addr}{xs:List V}{ds:List PyData}(e:H a=some (.tup xs))(r:Paired (DatV P w H) xs ds):DatV P w H (.ref a) (.tuple ds):=fun h v ok rv=>by
 cases rv
 obtain⟨_,its,rs,o,e1,c,n,d⟩:=ok a _ e
 obtain⟨as,h1⟩:=dats ok rs r
 exact⟨_,.tuple e1 c d (by simpa using h1)⟩
theorem datIs:∀ns:List Int,Paired (DatV P w H) (ns.map V.int) (ns.map PyData.int)
 | []=>.nil
 | n::r=>.cons (datI n) (datIs r)
end
theorem lays:∀ns:List Int,PyData.canLayAll0 (ns.map PyData.int)=true
 | []=>rfl
 | n::r=>by
  rw[List.map_cons,PyData.canLayAll0,lays r]
  rfl
theorem depths:∀ns:List Int,PyData.depthAll (ns.map PyData.int)=0
 | []=>rfl
 | n::r=>by
  rw[List.map_cons,PyData.depthAll,depths r]
  rfl
def rEqD(P:Program)(w:World)(neg:Bool):R2:=fun x y H Q=>∃dx dy,DatV P w H x dx/\DatV P w H y dy/\(dx.canLay0=true/\dy.canLay0=true/\dx.depth<=60)/\Q (.bl (if neg=true then !PyData.eqv dx dy else PyData.eqv dx dy)) H
theorem nZ_(hu:X.A.units+64<cLine):OpR X (compareOp .Eq) (rEqD X.prog X.w false):=by
 intro pins s σ H x y v u Q I rx ry h
 obtain⟨dx,dy,h1,h2,⟨c1,c2,c3⟩,q⟩:=h
 obtain⟨as,r1⟩:=h1 _ _ I.hok rx
 obtain⟨bs,r2⟩:=h2 _ _ I.hok ry
 refine SeqAt.compareEq_reads r1 r2 c1 c2 ?_ ⟨.bl _,H,I,rfl,q⟩
 have:min dx.depth dy.depth<=dx.depth:=Nat.min_le_left _ _
 lia
theorem qB_(hu:X.A.units+64<cLine):OpR X (compareOp .NotEq) (rEqD X.prog X.w true):=by
 intro pins s σ H x y v u Q I rx ry h
 obtain⟨dx,dy,h1,h2,⟨c1,c2,c3⟩,q⟩:=h
 obtain⟨as,r1⟩:=h1 _ _ I.hok rx
 obtain⟨bs,r2⟩:=h2 _ _ I.hok ry
 refine SeqAt.compareNe_reads r1 r2 c1 c2 ?_ ⟨.bl _,H,I,rfl,q⟩
 have:min dx.depth dy.depth<=dx.depth:=Nat.min_le_left _ _
 lia
theorem bZ_{P:Program}{w:World}{neg:Bool}{x y:V}{H:Hp}{Q:VK}{d:PyData}(h1:DatV P w H x d)(h2:DatV P w H y d)(c1:d.canLay0=true)(c2:d.depth<=60)(q:Q (.bl (!neg)) H):rEqD P w neg x y H Q:=by
 refine⟨d,d,h1,h2,⟨c1,c1,c2⟩,?_⟩
 rw[SeqAt.eqv_refl d c1]
 cases neg <;> exact q
end
theorem jA_:typeLookup (.type "list_reverseiterator") "__len__"=pure none:=by rw[typeLookup_type,builtinLookup_eq_fast];kernel_rfl
theorem nm_:typeLookup (.type "list_reverseiterator") "__length_hint__"=pure (some (.builtin "list_reverseiterator.__length_hint__")):=by rw[typeLookup_type,builtinLookup_eq_fast];kernel_rfl
theorem fA_:isSubtype (.type "list_reverseiterator") (.type "list_reverseiterator")=pure true:=by rw[isSubtype_type];kernel_rfl
section
variable{prog:Program}{w:World}{A:Around}{s:Shared}
theorem hx_{E:Value->Shared->Prop}{J l:Addr}{i:Int}{Q:Bool->Shared->Prop}(hit:s.heap.IsRevIter J l i)(h:Q false s):wpAny (model prog w) A (Builtin.List.listLengthHint (.ref J)) Q E s:=by
 unfold Builtin.List.listLengthHint
 refine wpAny_bind (wpAny_specialOf hit.typeIs jA_ ?_)
 show wpAny _ A (specialOf (Value.ref J) (Str.ofString "__length_hint__")>>=_) _ _ _
 refine wpAny_bind (wpAny_specialOf hit.typeIs nm_ ?_)
 generalize hid:("list_reverseiterator.__length_hint__":String)=id0
 wp_delta
 rw[show splitId id0=some ("list_reverseiterator","__length_hint__") from by subst hid;decide +kernel]
 subst hid
 refine wpAny_bind (wpAny_isInstance (T:="list_reverseiterator") (b:=true) hit.typeIs fA_ ?_)
 refine wpAny_ite_split (fun hab=>absurd hab (by decide)) (fun _=>?_)
 refine wpAny_ite_split (fun _=>?_) (fun hab=>absurd (by decide +kernel) hab)
 refine wpAny_ite_split (fun hab=>absurd hab (by decide +kernel)) (fun _=>?_)
 exact wpAny_pure h
theorem jP_{R:Result->Shared->Prop}{J l:Addr}{items:Array Value}(hh:A.handled=none)(hne:l≠J)(hit:s.heap.IsRevIter J l ((items.size:Int)-1))(hl:s.heap.IsList l items)(hz:items.size<=sizeLine)(S:Addr)(res:Value)(c0:Nat)
  (hS:s.heap.get? S=some {cls:=.type "list",data:=.seq #[] c0}) (hSJ:S≠J) (hSl:S≠l)
  (hR:∀h' tk acc c',(∀b o,b≠S->b≠J->s.heap.get? b=some o->h'.get? b=some o)->h'.get? S=some {cls:=.type "list",dict:=none,data:=.seq acc c',slots:=#[]}->
   ItemsOf (fun i v=>items[items.size-1-i]?=some v) acc items.size->R (.ok (.ret res)) {s with heap:=h',toks:=tk}) :
  wpAny (model prog w) A.in1 (Builtin.List.listExtendWith (.ref S) (.ref J) res)
   (fun fin s'=>match fin with | .done f=>R (.ok f) s' | .again c'=>c'.quiet=true/\codeAny (model prog w) A c' R s') (fun e s'=>R (.error e) s') s:=by
 have W:=(Walks.listRev (prog:=prog) (w:=w) (A:=A.in1) hh J l hne items).toS
 have hSf:S∉[J,l]:=fun hm=>by
  rcases List.mem_cons.mp hm with e | hm
  ·exact hSJ e
  ·exact hSl (by simpa using hm)
 unfold Builtin.List.listExtendWith
 refine wpAny_bind (wpAny_typeOf hit.typeIs ?_)
 have h1:Builtin.List.listSameRef (.ref S) (.ref J)=false:=by simp[Builtin.List.listSameRef,hSJ]
 have h2:(Value.type "list_reverseiterator"==Value.type "list")=false:=by decide
 have h3:(Value.type "list_reverseiterator"==Value.type "tuple")=false:=by decide
 simp only[h1,h2,h3,Bool.or_false,Bool.false_eq_true,if_false]
 refine wpAny_bind (wpAny_pyIter_revIter hit ?_)
 refine wpAny_bind (wpAny_holding (hx_ hit ?_))
 refine wpAny_ite_split (fun hab=>absurd hab (by decide)) (fun _=>?_)
 refine wpAny_pure ⟨plainId_quiet F.plain_extend_loop _,?_⟩
 refine codeAny_extend_loopS W hz S hSf res items.size 0 s #[] c0 rfl (Nat.zero_le _) ⟨Nat.zero_le _,by simpa using hit,hl⟩ hS (ItemsOf.nil _) fun s' acc' c' hm hS' hacc=>?_
 rw[Moved.eq_with hm]
 refine hR s'.heap s'.toks acc' c' (fun b o hb hb2 e=>hm.heap b o (fun z=>?_) e) hS' hacc
 rcases List.mem_cons.mp z with z | z
 ·exact hb z
 ·exact hb2 (by simpa using z)
theorem nl_{R:Result->Shared->Prop}{J l:Addr}{items:Array Value}(hh:A.handled=none)(hne:l≠J)(hit:s.heap.IsRevIter J l ((items.size:Int)-1))(hl:s.heap.IsList l items)(hz:items.size<=sizeLine)(S:Addr)
  (hS:s.heap.get? S=some {cls:=.type "list",data:=.seq #[]}) (hSJ:S≠J) (hSl:S≠l)
  (hR:∀h' tk acc c',(∀b o,b≠S->b≠J->s.heap.get? b=some o->h'.get? b=some o)->h'.get? S=some {cls:=.type "list",dict:=none,data:=.seq acc c',slots:=#[]}->
   ItemsOf (fun i v=>items[items.size-1-i]?=some v) acc items.size->R (.ok (.ret .none)) {s with heap:=h',toks:=tk}) :
  wpAny (model prog w) A.in1 (Builtin.«list.__init__» ⟨[.ref S,.ref J],[]⟩)
   (fun fin s'=>match fin with | .done f=>R (.ok f) s' | .again c'=>c'.quiet=true/\codeAny (model prog w) A c' R s') (fun e s'=>R (.error e) s') s:=by
 show wpAny _ _ (do let old <-Builtin.List.listItems (.ref S);Builtin.List.listUpdate (.ref S) (fun _=>#[]);letGo old.toList.reverse;Builtin.List.listExtendWith (.ref S) (.ref J) .none) _ _ s
 refine wpAny_bind ?_
 unfold Builtin.List.listItems
 refine wpAny_bind (wpAny_seqItems hS rfl (wpAny_pure ?_))
 show wpAny _ _ (updateSeq S (fun _=>#[])>>=fun _=>letGo (#[]:Array Value).toList.reverse>>=fun _=>Builtin.List.listExtendWith (.ref S) (.ref J) .none) _ _ s
 refine wpAny_bind (wpAny_updateSeq hS rfl ?_)
 have g2:=Heap.get?_update_self (Obj.mapSeq (fun _=>(#[]:Array Value))) hS rfl
 have oth:∀b o,b≠S->s.heap.get? b=some o->(s.heap.update S (Obj.mapSeq (fun _=>(#[]:Array Value)))).get? b=some o :=
  fun b o hb e=>(Heap.get?_update_other _ _ (Ne.symm hb)).trans e
 refine wpAny_bind (wpAny_letGo ?_)
 refine jP_ hh hne (hit.at fun o e=>oth J o (Ne.symm hSJ) e) (hl.at fun o e=>oth l o (Ne.symm hSl) e) hz S .none _ g2 hSJ hSl fun h' tk acc' c' hk hS' hacc=>?_
 exact hR h' tk acc' c' (fun b o hb hb2 e=>hk b o hb hb2 (oth b o hb e)) hS' hacc
theorem nh_{E:Value->Shared->Prop}{Q:Value->Shared->Prop}{J l:Addr}{items:Array Value}(hh:A.handled=none)(hne:l≠J)(hit:s.heap.IsRevIter J l ((items.size:Int)-1))(hl:s.heap.IsList l items)(hz:items.size<=sizeLine)
  (hQ:∀h' tk acc c',(∀b o,b≠J->s.heap.get? b=some o->h'.get? b=some o)->h'.get? s.heap.objs.size=some {cls:=.type "list",dict:=none,data:=.seq acc c',slots:=#[]}->
   ItemsOf (fun i v=>items[items.size-1-i]?=some v) acc items.size->Q (.ref s.heap.objs.size) {s with heap:=h',toks:=tk}) :
  wpAny (model prog w) A (call (.type "list") [.ref J]) Q E s:=by
 have ltJ:J<s.heap.objs.size:=by obtain⟨o,e,_⟩:=hit;exact Heap.lt_size e
 have ltl:l<s.heap.objs.size:=by obtain⟨o,e,_⟩:=hl;exact Heap.lt_size e
 refine callType_codes (Q₁:=fun obj s1=>obj=.ref s.heap.objs.size/\s1={s with heap:=s.heap.push {cls:=.type "list",data:=.seq #[]}}) F.called_list (F.typeCall_list_1 _) F.entry_list_init
  (code_list_new _ ⟨rfl,rfl⟩) fun obj s1 h1=>?_
 obtain⟨rfl,rfl⟩:=h1
 have hS:(s.heap.push {cls:=.type "list",data:=.seq #[]}).get? s.heap.objs.size=some {cls:=.type "list",data:=.seq #[]}:=Heap.get?_push_size _ rfl
 refine⟨⟨_,hS,rfl⟩,F.args_list_init_2 _ _,nl_ (A:=A.in1) hh hne (hit.at fun o e=>Heap.get?_push_of_some _ e) (hl.at fun o e=>Heap.get?_push_of_some _ e) hz _ hS (Nat.ne_of_gt ltJ) (Nat.ne_of_gt ltl) fun h' tk acc' c' hk hS' hacc=>?_⟩
 exact⟨rfl,hQ h' tk acc' c' (fun b o hb e=>hk b o (Nat.ne_of_lt (Heap.lt_size e)) hb (Heap.get?_push_of_some _ e)) hS' hacc⟩
end
section
variable{X:Cx}{e:Expr}{te:TE}
def tLRev(K:PySem.W.Frag)(te:TE):TE:=fun σ H Q=>te σ H fun x H1=>∃a xs,x=.ref a/\SqL K H1 a xs/\∀p,H1 p=none->Q (.ref p) (upd H1 p (.lst xs.reverse))
theorem lA_{its:List Value}{acc:Array Value}(h:ItemsOf (fun i v=>its.toArray[its.toArray.size-1-i]?=some v) acc its.toArray.size):acc.toList=its.reverse:=by
 obtain⟨h0,h2⟩:=h
 have h1:acc.size=its.length:=by rw[h0];simp
 apply List.ext_getElem?
 intro i
 by_cases hi:i<acc.size
 ·have e:=h2 i acc[i] (by simp[hi])
  have e':its[its.length-1-i]?=some acc[i]:=by simpa using e
  rw[List.getElem?_reverse (by lia),e']
  simp[hi]
 ·rw[List.getElem?_eq_none (by simpa using hi),List.getElem?_eq_none (by rw[List.length_reverse];lia)]
theorem pd_{p1 p2 q1 q2:Pos}(hc:X.calm=true)(hm1:X.mg "list"=none)(hm2:X.mg "reversed"=none)(hg1:Gl X "list")(hg2:Gl X "reversed")(he:PE X e te)(h1:starEach [e] X.env=[(false,eval e X.env)]:=by rfl) :
  PE X (.Call (.Name "list" p1) [.Call (.Name "reversed" p2) [e] [] q2] [] q1) (tLRev X.K te):=by
 intro pins s σ H Q I h
 refine wpAny_Call_Name_kw (bJ_ I hg1 hm1 boot_list ?_)
 refine PyProof.Rows.callWith_type1 ?_ rfl rfl
 show wpAny _ _ (spliced ((false,eval (.Call (.Name "reversed" p2) [e] [] q2) X.env)::backTo q1 (starEach [] X.env))) _ _ s
 refine Calls.spliced_cons ?_
 refine wpAny_Call_Name_kw (bJ_ I hg2 hm2 boot_reversed ?_)
 refine PyProof.Rows.callWith_type1 ?_ h1 rfl
 rw[h1]
 show wpAny _ _ (spliced ((false,eval e X.env)::backTo q2 (starEach [] X.env))) _ _ s
 refine Calls.spliced_cons (thn (he pins s σ H _ I h) fun u s1 ⟨x,H1,I1,r1,q1⟩=>?_)
 obtain⟨a,xs,rfl,hq,q⟩:=q1
 cases r1
 obtain⟨its,rv,pl,hz⟩:=I1.list hq
 have hl:=pl.isList
 have hlen:=rv.length
 have ltl:a<s1.heap.objs.size:=by obtain⟨o,e,_⟩:=hl;exact Heap.lt_size e
 refine Calls.spliced_nil ?_
 refine call_reversed_list hl ?_
 refine Calls.spliced_nil ?_
 refine nh_ (items:=its.toArray) (I1.ok.hd hc) (Nat.ne_of_lt ltl) ⟨_,Heap.get?_push_size _ rfl,rfl,rfl⟩ (hl.at fun o e=>Heap.get?_push_of_some _ e) (by rw[List.size_toArray];lia) fun h' tk acc c' hk hS hacc=>?_
 have eS:(s1.heap.push (revObj a ((its.toArray.size:Int)-1))).objs.size=s1.heap.objs.size+1:=Heap.size_push ..
 have hnew:s1.heap.objs.size<=(s1.heap.push (revObj a ((its.toArray.size:Int)-1))).objs.size:=by rw[eS];exact Nat.le_succ _
 have ea:=lA_ hacc
 refine⟨.ref _,_,I1.laid (t':=tk) (o:=.lst xs.reverse) (fun b o e=>hk b o (Nat.ne_of_lt (Heap.lt_size e)) (Heap.get?_push_of_some _ e)) hnew ⟨by rw[List.length_reverse];exact hz,its.reverse,c',rv.reverse,?_⟩,rfl,q _ (I1.hok.fresh hnew)⟩
 rw[hS,<-ea]
end
section
variable{X:Cx}{pins:List (Addr×Obj)}{σ:St}{H:Hp}{s:Shared}{h':Heap}
theorem Inv.turnedNew{ch:List Addr}{T:Addr}{o:HO}{t':Nat}(I:Inv X pins σ H s)(k:∀b u,b∉ch->s.heap.get? b=some u->h'.get? b=some u)(hf:∀b∈ch,FpOk X pins H b)(hT:s.heap.objs.size<=T)
  (new:ObjOk X.prog X.w (upd H T o) h' T o):Inv X pins σ (upd H T o) {s with heap:=h',toks:=t'}:=by
 have hn:=I.hok.fresh hT
 have lt:∀b u,s.heap.get? b=some u->b≠T:=fun b u e=>Nat.ne_of_lt (Nat.lt_of_lt_of_le (Heap.lt_size e) hT)
 have tr:∀b u,H b=some u->b∉ch:=fun b u e hb=>by
  obtain⟨f0,_⟩:=hf b hb
  rw[e] at f0;cases f0
 refine I.step (g':=s.gens) (d':=s.drawn) (ch:=ch) (fun b hb=>?_) (fun b u _ _ hc e _=>k b u hc e) (fun b u _ _ hc e _=>⟨u.slots,k b u hc e⟩) (fun b u _ e n=>by rw[i_ (lt b u e)];exact n)
  (fun b u hc e=>⟨u,k b u hc e⟩) (fun b xs e=>by rw[i_ (k_ e hn)];exact e) (fun b u x e=>by rw[i_ (k_ e hn)];exact e) (fun b ps e=>⟨#[],by rw[i_ (k_ e hn),e];simp⟩) (fun m hm=>?_) (fun b u e=>?_) I.bare
 ·obtain⟨_,f1,_,f3,f4,f5⟩:=hf b hb
  exact⟨f3,f1,f4,f5⟩
 ·obtain⟨u,es,ep,hu,r⟩:=hm
  exact⟨u,es,ep,k _ u (fun z=>(hf _ z).2.1 rfl) hu,r⟩
 ·by_cases hb:b=T
  ·subst hb
   rw[d_] at e;cases e
   exact new
  ·rw[i_ hb] at e
   refine(I.hok b u e).stay (fun c v hc q=>k c v ?_ q) (fun c q=>by rw[i_ (k_ q hn)];exact q) fun c xs q=>by rw[i_ (k_ q hn)];exact q
   rcases hc with rfl | hc
   ·exact tr _ _ e
   ·exact tr _ _ hc
theorem Inv.turnedL{ch:List Addr}{t':Nat}(I:Inv X pins σ H s)(k:∀b u,b∉ch->s.heap.get? b=some u->h'.get? b=some u)(hf:∀b∈ch,FpOk X pins H b):Inv X pins σ H {s with heap:=h',toks:=t'}:=by
 have tr:∀b u,H b=some u->b∉ch:=fun b u e hb=>by
  obtain⟨f0,_⟩:=hf b hb
  rw[e] at f0;cases f0
 refine I.step (g':=s.gens) (d':=s.drawn) (ch:=ch) (fun b hb=>?_) (fun b u _ _ hc e _=>k b u hc e) (fun b u _ _ hc e _=>⟨u.slots,k b u hc e⟩) (fun _ _ _ _ n=>n)
  (fun b u hc e=>⟨u,k b u hc e⟩) (fun _ _ e=>e) (fun _ _ _ e=>e) (fun b ps e=>⟨#[],by rw[e];simp⟩) (fun m hm=>?_) (fun b u e=>?_) I.bare
 ·obtain⟨_,f1,_,f3,f4,f5⟩:=hf b hb
  exact⟨f3,f1,f4,f5⟩
 ·obtain⟨u,es,ep,hu,r⟩:=hm
  exact⟨u,es,ep,k _ u (fun z=>(hf _ z).2.1 rfl) hu,r⟩
 ·refine(I.hok b u e).stay (fun c v hc q=>k c v ?_ q) (fun _ q=>q) fun _ _ q=>q
  rcases hc with rfl | hc
  ·exact tr _ _ e
  ·exact tr _ _ hc
end
def Itz(K:PySem.W.Frag)(a b:Addr):It :=
 ⟨fun i H=>∃xs ys x y,SqL K H a xs/\SqL K H b ys/\xs[i]?=some x/\ys[i]?=some y,
  fun i H v H'=>∃t x y,v=.ref t/\H t=none/\(∀xs,SqL K H a xs->xs[i]?=some x)/\(∀ys,SqL K H b ys->ys[i]?=some y)/\H'=upd H t (.tup [x,y]),
  fun i H=>∃xs ys,SqL K H a xs/\SqL K H b ys/\(xs.length<=i\/ys.length<=i)⟩
theorem mx_{P:Program}{w:World}{K:PySem.W.Frag}{elts:List Expr}{x1}{pos:Pos}(a b z TI TO i1 i2:Addr)(D:ZipApart z TI TO i1 i2 a b):Turn P w K (.Tuple elts x1 pos) (Itz K a b) [z,TI,TO,i1,i2] z
  (fun i h=>IsZip h z TI TO .none/\IsPair h TI (.ref i1) (.ref i2)/\(∃u v,IsPair h TO u v)/\h.IsListIter i1 a i/\h.IsListIter i2 b i) where
 mem:=by simp
 obj:=fun i h st c hb=>by
  obtain⟨h1,h2,⟨u,v,h3⟩,⟨o4,h4,_,d4⟩,⟨o5,h5,_,d5⟩⟩:=st
  simp only[List.mem_cons,List.not_mem_nil,or_false] at hb
  rcases hb with rfl | rfl | rfl | rfl | rfl
  ·exact⟨_,h1,fun v z=>by cases z⟩
  ·exact⟨_,h2,fun v z=>by cases z⟩
  ·exact⟨_,h3,fun v z=>by cases z⟩
  ·exact⟨o4,h4,fun v z=>by rw[d4] at z;cases z⟩
  ·exact⟨o5,h5,fun v z=>by rw[d5] at z;cases z⟩
 keep:=fun i h h' st k=>by
  obtain⟨h1,h2,⟨u,v,h3⟩,h4,h5⟩:=st
  exact⟨k z (by simp) _ h1,k TI (by simp) _ h2,⟨u,v,k TO (by simp) _ h3⟩,h4.at fun o q=>k i1 (by simp) o q,h5.at fun o q=>k i2 (by simp) o q⟩
 item:=by
  intro X hP hw hK hc i pins s σ H E I hf st hg
  subst hP hw hK
  obtain⟨h1,h2,⟨u0,v0,h3⟩,h4,h5⟩:=st
  obtain⟨xs,ys,x,y,hqa,hqb,hx,hy⟩:=hg
  obtain⟨its,rv,p,hz⟩:=I.list hqa
  obtain⟨jts,rw',p',hz'⟩:=I.list hqb
  obtain⟨u,hu,ru⟩:=rv.get hx
  obtain⟨v,hv,rv'⟩:=rw'.get hy
  have e1:=Heap.lt_size h1
  have fpo:∀c∈[z,TI,TO,i1,i2],∃o,s.heap.get? c=some o:=fun c hb=>by
   obtain⟨o4,q4,_⟩:=h4
   obtain⟨o5,q5,_⟩:=h5
   simp only[List.mem_cons,List.not_mem_nil,or_false] at hb
   rcases hb with rfl | rfl | rfl | rfl | rfl
   ·exact⟨_,h1⟩
   ·exact⟨_,h2⟩
   ·exact⟨_,h3⟩
   ·exact⟨_,q4⟩
   ·exact⟨_,q5⟩
  refine wpAny_pyNext_zip_item D h1 h2 h3 h4 h5 p.isList p'.isList (x:=u) (y:=v) (by simpa using hu) (by simpa using hv) fun h' g1 g2 g3 g4 g5 g6 g7=>⟨_,rfl,?_⟩
  refine wpAny_letOwnedTupleGo_zip g1 fun h2' g8 g9=>?_
  have kk:∀c o,c∉[z,TI,TO,i1,i2]->s.heap.get? c=some o->h2'.get? c=some o:=fun c o hb q =>
   g9.extBut c o (fun q=>hb (by simp[q])) (g7 c o (fun q=>hb (by simp[q])) (fun q=>hb (by simp[q])) (fun q=>hb (by simp[q])) (fun q=>hb (by simp[q])) q)
  have tT:h2'.get? s.heap.objs.size=some {cls:=.type "tuple",data:=.seq #[u,v]}:=g9.extBut _ _ (Nat.ne_of_gt e1) g5
  have I1:=I.turnedNew (t':=s.toks) (T:=s.heap.objs.size) (o:=.tup [x,y]) kk hf (Nat.le_refl _) ⟨by show 2<=sizeLine;decide,[u,v],.cons ru (.cons rv' .nil),⟨_,tT,rfl,_,rfl⟩⟩
  have hn:H s.heap.objs.size=none:=I.hok.fresh (Nat.le_refl _)
  refine⟨.ref s.heap.objs.size,_,I1,rfl,⟨_,x,y,rfl,hn,fun zs hy'=>by rw[I.list_inj hy' hqa];exact hx,fun zs hy'=>by rw[I.list_inj hy' hqb];exact hy,rfl⟩,⟨g8,?_,⟨u,v,?_⟩,?_,?_⟩,fun c hb=>?_⟩
  ·exact g9.extBut _ _ D.TIz (g7 _ _ D.TIz D.TITO D.TIi1 D.TIi2 h2)
  ·exact g9.extBut _ _ D.TOz g2
  ·exact g3.extBut g9.extBut D.i1z
  ·exact g4.extBut g9.extBut D.i2z
  ·obtain⟨f0,_⟩:=hf c hb
   obtain⟨o,q⟩:=fpo c hb
   rw[i_ (Nat.ne_of_lt (Heap.lt_size q))];exact f0
 done:=by
  intro X hP hw hK hc i pins s σ H E I hf st hg
  subst hP hw hK
  obtain⟨h1,h2,⟨u0,v0,h3⟩,h4,h5⟩:=st
  obtain⟨xs,ys,hqa,hqb,hx⟩:=hg
  obtain⟨its,rv,p,hz⟩:=I.list hqa
  obtain⟨jts,rw',p',hz'⟩:=I.list hqb
  have hl:=rv.length
  have hl':=rw'.length
  refine wpAny_pyNext_zip_end (I.ok.hd hc) D h1 h2 h3 h4 h5 p.isList p'.isList ?_ fun h' eb=>⟨rfl,I.turnedL (t':=s.toks) (ch:=[z,TI,TO,i1,i2]) (fun c o hb q=>eb c o (fun q=>hb (by simp[q])) (fun q=>hb (by simp[q])) (fun q=>hb (by simp[q])) (fun q=>hb (by simp[q])) q) hf⟩
  rcases hx with hx | hx
  ·exact .inl (by simp;lia)
  ·exact .inr (by simp;lia)
 self:=fun _ _ _ _ _ st h=>wpAny_pyIter_zip st.1 h
section
variable{X:Cx}{l l2:Expr}{tl tl2:TE}{elts:List Expr}{p pos tpos:Pos}
def iZip(K:PySem.W.Frag)(tl tl2:TE):TI:=fun σ H R=>tl σ H fun x H1=>tl2 σ H1 fun y H2=>∃a b,x=.ref a/\y=.ref b/\(∃xs,SqL K H2 a xs)/\(∃ys,SqL K H2 b ys)/\R (Itz K a b) H2
theorem kV_{x1}(hg:Gl X "zip")(hm:X.mg "zip"=none)(hl:PE X l tl)(hl2:PE X l2 tl2)(hs:starEach [l,l2] X.env=[(false,eval l X.env),(false,eval l2 X.env)]:=by rfl)(hs2:starEach [l2] X.env=[(false,eval l2 X.env)]:=by rfl) :
  PI X (.Tuple elts x1 tpos) (.Call (.Name "zip" p) [l,l2] [] pos) (iZip X.K tl tl2):=by
 intro pins s σ H R I h
 refine Call_ (bJ_ I hg hm boot_zip (PyProof.Rows.callWith_type1 ?_ (by rw[hs,hs2]) (by rw[hs2];rfl)))
 rw[hs]
 show wpAny _ _ (spliced ((false,eval l X.env)::(false,eval l2 X.env)::backTo pos (starEach [] X.env))) _ _ s
 refine Calls.spliced_cons (thn (hl pins s σ H _ I h) fun u s1 ⟨x,H1,I1,r1,q1⟩=>Calls.spliced_cons (thn (hl2 pins s1 σ H1 _ I1 q1) fun u2 s2 ⟨y,H2,I2,r2,q2⟩=>Calls.spliced_nil ?_))
 obtain⟨a,b,rfl,rfl,⟨xs,hqa⟩,⟨ys,hqb⟩,q⟩:=q2
 cases r1
 cases r2
 obtain⟨its,rv,pl,hz⟩:=I2.list hqa
 obtain⟨jts,rv',pl',hz'⟩:=I2.list hqb
 have la:a<s2.heap.objs.size:=by obtain⟨_,e,_⟩:=pl.isList;exact Heap.lt_size e
 have lb:b<s2.heap.objs.size:=by obtain⟨_,e,_⟩:=pl'.isList;exact Heap.lt_size e
 refine call_zip_2 pl.isList pl'.isList fun h' g1 g2 g3 g4 g5 g6 g7=>?_
 have D:ZipApart (s2.heap.objs.size+4) (s2.heap.objs.size+2) (s2.heap.objs.size+3) s2.heap.objs.size (s2.heap.objs.size+1) a b:=zipApart_new la lb
 have T:=mx_ (P:=X.prog) (w:=X.w) (K:=X.K) (elts:=elts) (x1:=x1) (pos:=tpos) a b _ _ _ _ _ D
 refine T.self _ 0 _ _ _ ⟨g1,g2,⟨_,_,g3⟩,g4,g5⟩ ?_
 refine⟨s2.heap.objs.size+4,_,_,_,H2,rfl,I2.kept (t':=s2.toks) g7,T,⟨g1,g2,⟨_,_,g3⟩,g4,g5⟩,fun c hb=>?_,q⟩
 have hb':s2.heap.objs.size<=c:=by
  simp only[List.mem_cons,List.not_mem_nil,or_false] at hb
  rcases hb with rfl | rfl | rfl | rfl | rfl
  ·exact Nat.le_add_right _ _
  ·exact Nat.le_add_right _ _
  ·exact Nat.le_add_right _ _
  ·exact Nat.le_refl _
  ·exact Nat.le_add_right _ _
 exact I2.fpOk hb' (I2.hok.fresh hb')
end
theorem jb_{K:PySem.W.Frag}{a b:Addr}{xs ys:List V}{G:V->Hp->(List V->Hp->Prop)->List V->Prop}{Fin:List V->Hp->Prop}{H:Hp}(Pv:Nat->List V->Hp->Prop)(hlen:xs.length=ys.length)(h0:Pv 0 [] H)
  (hl:∀i zs H,i<=xs.length->Pv i zs H->SqL K H a xs/\SqL K H b ys) (hz:∀i zs H,i<xs.length->Pv i zs H->zs.length<sizeLine)
  (hs:∀i x y zs H t,xs[i]?=some x->ys[i]?=some y->Pv i zs H->H t=none->G (.ref t) (upd H t (.tup [x,y])) (Pv (i+1)) zs) (hd:∀zs H,Pv xs.length zs H->Fin zs H) :
  ∃W:Nat->Nat->List V->Hp->Prop,(∃m,W 0 m [] H)/\∀i m zs H,W i m zs H->
   ((Itz K a b).stop i H/\Fin zs H)\/((Itz K a b).go i H/\zs.length<sizeLine/\∃Nx:List V->Hp->Prop,(∀ys' H',Nx ys' H'->∃m',m'<m/\W (i+1) m' ys' H')/\∀x H',(Itz K a b).yld i H x H'->G x H' Nx zs):=by
 refine⟨fun i m zs H=>m=xs.length-i/\i<=xs.length/\Pv i zs H,⟨xs.length,by simp,Nat.zero_le _,h0⟩,?_⟩
 rintro i m zs H ⟨rfl,hi,p⟩
 obtain⟨q1,q2⟩:=hl i zs H hi p
 by_cases hlt:i<xs.length
 ·have e1:xs[i]?=some xs[i]:=by simp[hlt]
  have e2:ys[i]?=some (ys[i]'(by lia)):=by simp
  refine .inr ⟨⟨xs,ys,_,_,q1,q2,e1,e2⟩,hz i zs H hlt p,Pv (i+1),fun ys' H' p'=>⟨xs.length-(i+1),by lia,rfl,hlt,p'⟩,fun v H' y=>?_⟩
  obtain⟨t,x,y,rfl,ht,y1,y2,rfl⟩:=y
  exact hs i x y zs H t (y1 xs q1) (y2 ys q2) p ht
 ·have e:i=xs.length:=by lia
  subst e
  exact .inl ⟨⟨xs,ys,q1,q2,.inl (Nat.le_refl _)⟩,hd zs H p⟩
end L2
namespace Ma
def ups(b n L:Nat):List Nat:=(List.range L).map fun j=>n / b ^ j % b
def dws(b n L i:Nat):List Nat:=(List.range i).map fun j=>n / b ^ (L-1-j) % b
theorem mv_(b n i:Nat):ups b n (i+1)=ups b n i++[n / b ^ i % b]:=by
 unfold ups;rw[List.range_succ,List.map_append];rfl
theorem fq_(b n L i:Nat):dws b n L (i+1)=dws b n L i++[n / b ^ (L-1-i) % b]:=by
 unfold dws;rw[List.range_succ,List.map_append];rfl
theorem oJ_(b n L:Nat):(ups b n L).length=L:=by simp[ups]
theorem E_(b n L i:Nat):(dws b n L i).length=i:=by simp[dws]
theorem oI_(b n L:Nat):(ups b n L).reverse=dws b n L L:=by
 apply List.ext_getElem
 ·simp[ups,dws]
 ·intro i h1 h2
  simp[ups,dws]
theorem rm_(b n i:Nat):n / b ^ i / b=n / b ^ (i+1):=by rw[Nat.div_div_eq_div_mul,Nat.pow_succ]
theorem gM_:∀(ps:List Nat),(∀p∈ps,1<=p/\p<=6)->ps.length<=ps.sum/\ps.sum<=6*ps.length
 | [],_=>by simp
 | p::r,h=>by
  have h1:=h p (by simp)
  have h2:=gM_ r fun q hq=>h q (List.mem_cons_of_mem _ hq)
  simp only[List.sum_cons,List.length_cons]
  lia
theorem eA_:∀(ps:List Nat),(ps.map fun(p:Nat)=>(p:Int)).sum=((ps.sum:Nat):Int)
 | []=>rfl
 | p::r=>by simp[eA_ r]
end Ma
namespace Ma
def cuts:List Nat->List Int->List (List Int)
 | [],_=>[]
 | p::ps,xs=>xs.take p::cuts ps (xs.drop p)
def psums(ps:List Nat)(xs:List Int):List Int:=(cuts ps xs).map List.sum
def ends:Nat->List Nat->List Nat
 | _,[]=>[]
 | o,p::ps=>(o+p)::ends (o+p) ps
theorem fO_(ps:List Nat)(xs:List Int):(psums ps xs).length=ps.length:=by
 unfold psums
 rw[List.length_map]
 induction ps generalizing xs with
 | nil=>rfl
 | cons p ps ih=>simp[cuts,ih]
end Ma
namespace Ma
def wts(b n L:Nat)(ws:List Int):List Int:=List.zipWith (fun(d:Nat) (x:Int)=>(d:Int)*x) (dws b n L L) ws
theorem gF_(b n L:Nat)(ws:List Int)(h:ws.length=L):(wts b n L ws).length=L:=by
 unfold wts;rw[List.length_zipWith,E_,h,Nat.min_self]
theorem oC_{b n L:Nat}{ws:List Int}{i d:Nat}{x:Int}(h1:(dws b n L L)[i]?=some d)(h2:ws[i]?=some x):(wts b n L ws)[i]?=some ((d:Int)*x):=by
 unfold wts;rw[List.getElem?_zipWith,h1,h2]
theorem lS_{b n L d:Nat}(hb:0<b)(h:d∈dws b n L L):d<b:=by
 unfold dws at h
 obtain⟨j,_,rfl⟩:=List.mem_map.mp h
 exact Nat.mod_lt _ hb
theorem jW_{b n L:Nat}{ws:List Int}(hb0:0<b)(hb:b<=16)(hw:∀x∈ws,-9<=x/\x<=9):∀y∈wts b n L ws,-1000<=y/\y<=1000:=by
 intro y hy
 unfold wts at hy
 obtain⟨i,hi⟩:=List.getElem?_of_mem hy
 rw[List.getElem?_zipWith] at hi
 cases h1:(dws b n L L)[i]? with
 | none=>rw[h1] at hi;simp at hi
 | some d =>
  cases h2:ws[i]? with
  | none=>rw[h1,h2] at hi;simp at hi
  | some x =>
   rw[h1,h2] at hi
   have e:(d:Int)*x=y:=by simpa using hi
   have hd:=lS_ hb0 (List.mem_of_getElem? h1)
   have hx:=hw x (List.mem_of_getElem? h2)
   have d16:(d:Int)<=15:=by lia
   have d0:(0:Int)<=d:=by lia
   have a1:(d:Int)*x<=d*9:=Int.mul_le_mul_of_nonneg_left hx.2 d0
   have a2:(d:Int)*(-9)<=d*x:=Int.mul_le_mul_of_nonneg_left hx.1 d0
   lia
theorem M_(ps:List Nat):∀xs:List Int,(cuts ps xs).length=ps.length:=by
 induction ps with
 | nil=>intro xs;rfl
 | cons p ps ih=>intro xs;simp[cuts,ih]
theorem dj_(ps:List Nat):∀(xs:List Int) (i p:Nat),ps[i]?=some p->(cuts ps xs)[i]?=some ((xs.drop (ps.take i).sum).take p):=by
 induction ps with
 | nil=>intro xs i p h;simp at h
 | cons q ps ih =>
  intro xs i p h
  cases i with
  | zero=>simp at h;subst h;simp[cuts]
  | succ i =>
   have h':ps[i]?=some p:=by simpa using h
   have:=ih (xs.drop q) i p h'
   simp only[cuts,List.getElem?_cons_succ,this,List.take_succ_cons,List.sum_cons,List.drop_drop]
theorem bF_{ps:List Nat}:∀ {xs row:List Int},row∈cuts ps xs->∀x∈row,x∈xs:=by
 induction ps with
 | nil=>intro xs row h;simp[cuts] at h
 | cons p ps ih =>
  intro xs row h x hx
  rcases List.mem_cons.mp h with rfl | h
  ·exact List.mem_of_mem_take hx
  ·exact List.mem_of_mem_drop (ih h x hx)
theorem aq_{ps:List Nat}(hp:∀p∈ps,p<=6):∀ {xs row:List Int},row∈cuts ps xs->row.length<=6:=by
 induction ps with
 | nil=>intro xs row h;simp[cuts] at h
 | cons p ps ih =>
  intro xs row h
  rcases List.mem_cons.mp h with rfl | h
  ·have:=hp p (by simp);rw[List.length_take];lia
  ·exact ih (fun q hq=>hp q (List.mem_cons_of_mem _ hq)) h
end Ma
namespace Ma
def maxL:List Int->Int
 | []=>0
 | [x]=>x
 | x::r=>max x (maxL r)
def minL:List Int->Int
 | []=>0
 | [x]=>x
 | x::r=>min x (minL r)
theorem y_:∀ns:List Int,0<ns.length->maxL ns∈ns/\∀n∈ns,n<=maxL ns
 | [],h=>by simp at h
 | [x],_=>by simp[maxL]
 | x::y::r,_=>by
  have ih:=y_ (y::r) (by simp)
  have e:maxL (x::y::r)=max x (maxL (y::r)):=rfl
  rw[e]
  refine⟨?_,fun n hn=>?_⟩
  ·rcases Int.le_total x (maxL (y::r)) with h | h
   ·rw[Int.max_eq_right h];exact List.mem_cons_of_mem _ ih.1
   ·rw[Int.max_eq_left h];simp
  ·rcases List.mem_cons.mp hn with rfl | hn
   ·exact Int.le_max_left _ _
   ·exact Int.le_trans (ih.2 n hn) (Int.le_max_right _ _)
theorem w_:∀ns:List Int,0<ns.length->minL ns∈ns/\∀n∈ns,minL ns<=n
 | [],h=>by simp at h
 | [x],_=>by simp[minL]
 | x::y::r,_=>by
  have ih:=w_ (y::r) (by simp)
  have e:minL (x::y::r)=min x (minL (y::r)):=rfl
  rw[e]
  refine⟨?_,fun n hn=>?_⟩
  ·rcases Int.le_total x (minL (y::r)) with h | h
   ·rw[Int.min_eq_left h];simp
   ·rw[Int.min_eq_right h];exact List.mem_cons_of_mem _ ih.1
  ·rcases List.mem_cons.mp hn with rfl | hn
   ·exact Int.min_le_left _ _
   ·exact Int.le_trans (Int.min_le_right _ _) (ih.2 n hn)
theorem dG_{ns:List Int}{m:Int}(h1:m∈ns)(h2:∀n∈ns,n<=m):m=maxL ns:=by
 have h:=y_ ns (List.length_pos_of_mem h1)
 exact Int.le_antisymm (h.2 m h1) (h2 _ h.1)
theorem dF_{ns:List Int}{m:Int}(h1:m∈ns)(h2:∀n∈ns,m<=n):m=minL ns:=by
 have h:=w_ ns (List.length_pos_of_mem h1)
 exact Int.le_antisymm (h2 _ h.1) (h.2 m h1)
end Ma
namespace L2
open PySem PySem.Spec PyProof.Rows
structure Def(P:Program)(w:World)(K:PySem.W.Frag)(mg:Str->Option Value)(base:Heap)(k:Nat)(x:Str)(ps:List Str)(sp:Sp):Prop where
 ex:∃f fd,FnOk P w K mg base CX0 k f fd ps sp/\mg x=some (.ref f)/\PySem.W.keepIn K (.ref f)=true/\Binds K fd ps []
section
variable{X:Cx}{k:Nat}{x:Str}{ps:List Str}{sp:Sp}{e a b c:Expr}{es:List Expr}{t:TA}{ta tb tc te:TE}{p pos:Pos}
theorem l_(D:Def X.prog X.w X.K X.mg X.base k x ps sp)(hr:Room k X.A)(hg:Gl X x)(ha:PA X (e::es) t)(hdb:(x==("__debug__":Str))=false:=by decide)
  (he:starEach (e::es) X.env=(false,eval e X.env)::starEach es X.env:=by rfl) (hpl:(backTo pos (starEach es X.env)).any (·.1)=false:=by rfl):PE X (.Call (.Name x p) (e::es) [] pos) (tCall sp [] E0 t):=by
 obtain⟨f,fd,G,h1,h2,h3⟩:=D.ex
 exact kY_ G hr hg h1 h2 h3 .nil pass0 ha hdb he hpl
theorem ixl(ha:PE X a ta)(hb:PE X b tb)(hs:cL_ b:=by intro _ _;rfl):PE X (.Subscript a b pos) (tOp (rIxL X.K) ta tb):=qw_ pB_ ha hb hs
theorem ixt(ha:PE X a ta)(hb:PE X b tb)(hs:cL_ b:=by intro _ _;rfl):PE X (.Subscript a b pos) (tOp (rIxT X.K) ta tb):=qw_ qV_ ha hb hs
theorem lenS(hm:X.mg "len"=none)(hg:Gl X "len")(ha:PE X a ta)(hs:starEach [a] X.env=[(false,eval a X.env)]:=by rfl) :
  PE X (.Call (.Name "len" p) [a] [] pos) (tCB (fun xs H Q=>∃p ys,xs=[.ref p]/\(SqL X.K H p ys\/SqT X.K H p ys)/\Q (.int ys.length) H) (tCons ta tNil)):=o_ gy_ hg hm PySem.boot_len (a_ ha c_ hs) (he:=hs)
theorem ixlK(K:PySem.W.Frag)(hK:X.K=K)(ha:PE X a ta)(hb:PE X b tb)(hs:cL_ b:=by intro _ _;rfl):PE X (.Subscript a b pos) (tOp (rIxL K) ta tb):=by
 subst hK
 exact ixl ha hb hs
theorem ixtK(K:PySem.W.Frag)(hK:X.K=K)(ha:PE X a ta)(hb:PE X b tb)(hs:cL_ b:=by intro _ _;rfl):PE X (.Subscript a b pos) (tOp (rIxT K) ta tb):=by
 subst hK
 exact ixt ha hb hs
theorem ik_(K:PySem.W.Frag)(hK:X.K=K):SlR X (rSlL K):=by
 subst hK
 exact dt_
theorem eX_(K:PySem.W.Frag)(hK:X.K=K){k n:Nat}{u:TGs}(hc:X.calm=true)(h:PGs X es u)(hn:(assignEach es X.env).length=n:=by rfl)(hst:(assignEach es X.env).findIdx? (·.1)=none:=by rfl):PG X (.Tuple es k pos) (gTup K n u):=by
 subst hK
 exact ej_ hc h hn hst
theorem eY_(P:Program)(w:World)(hP:X.prog=P)(hw:X.w=w)(hu:X.A.units+64<cLine):OpR X (compareOp .NotEq) (rEqD P w true):=by
 subst hP hw
 exact qB_ hu
theorem iW_{K:PySem.W.Frag}:GKeeps 2 (gTup K 2 (gCons (gName 0) (gCons (gName 1) gNil))):=fun v σ H Q q=>by
 obtain⟨a,xs,e,h1,h2,v0,r0,e0,v1,r1,e1,e2,q⟩:=q
 exact⟨a,xs,e,h1,h2,v0,r0,e0,v1,r1,e1,e2,⟨by simp,fun i hi=>by rw[List.getElem?_set_ne (by lia),List.getElem?_set_ne (by lia)]⟩,q⟩
theorem dW_{y:Str}{T:String}(hm:X.mg y=none)(hv:bootBuiltins y=some (.type T))(hg:Gl X y:=by rfl)(hn:y≠"__name__":=by decide)(hd:(y==("__debug__":Str))=false:=by decide):PE X (.Name y pos) (tC (.ty T)) :=
 pg_ (v:=.ty T) hg hm hv rfl hn hd
theorem aI_{K:PySem.W.Frag}{H:Hp}{q:Addr}{xs:List V}{i:Int}{v:V}{Q:VK}(h:H q=some (.lst xs))(e:atI xs i=some v)(k:Q v H):rIxL K (.ref q) (.int i) H Q:=⟨q,xs,i,v,rfl,rfl,SqL.of h,e,k⟩
theorem qq_{K:PySem.W.Frag}{H:Hp}{q:Addr}{xs:List V}{i:Int}{v:V}{Q:VK}(h:H q=some (.tup xs))(e:atI xs i=some v)(k:Q v H):rIxT K (.ref q) (.int i) H Q:=⟨q,xs,i,v,rfl,rfl,SqT.of h,e,k⟩
theorem ov_{xs:List V}{i:Int}{Pr:V->Prop}(h0:0<=i)(h1:i<xs.length)(h:∀x∈xs,Pr x):∃v,atI xs i=some v/\Pr v:=by
 obtain⟨j,rfl⟩:∃j:Nat,i=j:=⟨i.toNat,by lia⟩
 have hj:j<xs.length:=by lia
 exact⟨xs[j],aJ_ (by simp[hj]),h _ (List.getElem_mem hj)⟩
end
end L2
namespace Hv
open PySem L2
theorem sz{n:Nat}(h:n<=1000000):n<=sizeLine:=Nat.le_trans h (by decide)
theorem szl{n:Nat}(h:n<=1000000):n<sizeLine:=Nat.lt_of_le_of_lt h (by decide)
def Kp(fp:List Addr)(H H':Hp):Prop:=∀b o,H b=some o->b∉fp->H' b=some o
theorem Kp.refl{fp:List Addr}{H:Hp}:Kp fp H H:=fun _ _ h _=>h
theorem Kp.trans{fp:List Addr}{H H1 H2:Hp}(a:Kp fp H H1)(b:Kp fp H1 H2):Kp fp H H2:=fun c o h n=>b c o (a c o h n) n
theorem Kp.of{fp:List Addr}{H H':Hp}(a:Same H H'):Kp fp H H':=fun c o h _=>a c o h
theorem Kp.same{fp:List Addr}{H H1 H2:Hp}(a:Kp fp H H1)(b:Same H1 H2):Kp fp H H2:=fun c o h n=>b c o (a c o h n)
theorem f_{H:Hp}{a:Addr}{o:HO}(h:H a=none):Same H (upd H a o):=fun b u e=>by rw[i_ (k_ e h)];exact e
theorem D_{H H':Hp}{a:Addr}{o:HO}(s:Same H H')(h:H a=none):Same H (upd H' a o):=fun b u e=>by rw[i_ (k_ e h)];exact s b u e
theorem dL_{fp:List Addr}{H H':Hp}{a:Addr}{o:HO}(s:Kp fp H H')(h:a∈fp\/H a=none):Kp fp H (upd H' a o):=fun b u e n=>by
 have:b≠a:=by
  rcases h with h | h
  ·exact fun z=>n (z▸h)
  ·exact k_ e h
 rw[i_ this];exact s b u e n
structure FrOk(b:Nat)(ps:List Nat)(ws:List Int):Prop where
 b2:2<=b
 b16:b<=16
 l2:2<=ps.length
 l4:ps.length<=4
 pr:∀p∈ps,1<=p/\p<=6
 wl:ws.length=ps.sum
 wr:∀x∈ws,-9<=x/\x<=9
abbrev natV(ps:List Nat):List V:=ps.map fun(p:Nat)=>V.int (p:Int)
theorem hA_(ps:List Nat):natV ps=(ps.map fun(p:Nat)=>(p:Int)).map V.int:=by simp[natV]
structure FrAt(H:Hp)(f a c:Addr)(b:Nat)(ps:List Nat)(ws:List Int):Prop where
 tp:H f=some (.tup [.int b,.ref a,.ref c])
 hp:H a=some (.lst (natV ps))
 hw:H c=some (.lst (ws.map V.int))
 ok:FrOk b ps ws
theorem FrAt.keep{H H':Hp}{f a c:Addr}{b:Nat}{ps:List Nat}{ws:List Int}(F:FrAt H f a c b ps ws)(s:Same H H'):FrAt H' f a c b ps ws:=⟨s _ _ F.tp,s _ _ F.hp,s _ _ F.hw,F.ok⟩
theorem FrOk.sum{b:Nat}{ps:List Nat}{ws:List Int}(F:FrOk b ps ws):2<=ps.sum/\ps.sum<=24:=by
 have h:=Ma.gM_ ps F.pr
 have h1:=F.l2
 have h2:=F.l4
 lia
theorem Kp.free{fp:List Addr}{H H':Hp}(s:Kp fp H H'){l:Addr}(h:H' l=none)(n:l∉fp):H l=none:=by
 cases q:H l with
 | none=>rfl
 | some o =>
  rw[s l o q n] at h
  cases h
theorem boot_isinstance:bootBuiltins "isinstance"=some (.builtin "isinstance"):=PyProof.Rows.boot_isinstance
theorem boot_int:bootBuiltins "int"=some (.type "int"):=PyProof.Rows.boot_int
theorem boot_bool:bootBuiltins "bool"=some (.type "bool"):=PyProof.Rows.boot_bool
theorem boot_list:bootBuiltins "list"=some (.type "list"):=PyProof.Rows.boot_list
theorem boot_tuple:bootBuiltins "tuple"=some (.type "tuple"):=PyProof.Rows.boot_tuple
theorem boot_all:bootBuiltins "all"=some (.builtin "all"):=PyProof.Rows.boot_all
theorem boot_sum:bootBuiltins "sum"=some (.builtin "sum"):=PyProof.Rows.boot_sum
theorem boot_max:bootBuiltins "max"=some (.builtin "max"):=PyProof.Rows.boot_max
theorem boot_min:bootBuiltins "min"=some (.builtin "min"):=PyProof.Rows.boot_min
structure Txt(mg:Str->Option Value):Prop where
 isi:mg "isinstance"=none
 int:mg "int"=none
 bool:mg "bool"=none
 list:mg "list"=none
 tuple:mg "tuple"=none
 all:mg "all"=none
 len:mg "len"=none
 sum:mg "sum"=none
 range:mg "range"=none
 max:mg "max"=none
 min:mg "min"=none
 rev:mg "reversed"=none
 zip:mg "zip"=none
 enum:mg "enumerate"=none
section
variable{K:PySem.W.Frag}
theorem oi_:PySem.W.kitOne K (.type "int") (.type "int")=some true:=by kernel_rfl
theorem oj_:PySem.W.kitOne K (.type "int") (.type "bool")=some false:=by kernel_rfl
theorem ol_:PySem.W.kitOne K (.type "bool") (.type "int")=some true:=by kernel_rfl
theorem om_:PySem.W.kitOne K (.type "bool") (.type "bool")=some true:=by kernel_rfl
theorem og_:PySem.W.kitOne K (.type "NoneType") (.type "int")=some false:=by kernel_rfl
theorem oe_:PySem.W.kitOne K (.type "str") (.type "int")=some false:=by kernel_rfl
theorem oh_:PySem.W.kitOne K (.type "list") (.type "int")=some false:=by kernel_rfl
theorem oc_:PySem.W.kitOne K (.type "tuple") (.type "int")=some false:=by kernel_rfl
theorem ok_:PySem.W.kitOne K (.type "dict") (.type "int")=some false:=by kernel_rfl
theorem qP_:PySem.W.kitOne K (.type "list") (.type "list")=some true:=by kernel_rfl
theorem qO_:PySem.W.kitOne K (.type "tuple") (.type "tuple")=some true:=by kernel_rfl
end
inductive Thing(H:Hp):V->Prop where
 | non:Thing H .non
 | bl (b:Bool):Thing H (.bl b)
 | int (i:Int):Thing H (.int i)
 | str (x:Str):Thing H (.str x)
 | lst {a:Addr} {xs:List V} (e:H a=some (.lst xs)):Thing H (.ref a)
 | tup {a:Addr} {xs:List V} (e:H a=some (.tup xs)):Thing H (.ref a)
 | dK {a:Addr} {kvs:List (Key×V)} (e:H a=some (.dK kvs)):Thing H (.ref a)
theorem Thing.keep{H H':Hp}{v:V}(t:Thing H v)(s:Same H H'):Thing H' v:=by
 cases t with
 | non=>exact .non
 | bl b=>exact .bl b
 | int i=>exact .int i
 | str x=>exact .str x
 | lst e=>exact .lst (s _ _ e)
 | tup e=>exact .tup (s _ _ e)
 | dK e=>exact .dK (s _ _ e)
def qW_:V->Bool
 | .int _=>true
 | _=>false
def betw(v:V)(lo hi:Int):Bool:=match v with
 | .int i=>decide (lo<=i)&&decide (i<=hi)
 | _=>false
def dm_:Sp:=fun vs H Q _=>∃v,vs=[v]/\Thing H v/\Q (.bl (qW_ v)) H
def bH_:Sp:=fun vs H Q _=>∃v lo hi,vs=[v,.int lo,.int hi]/\Thing H v/\Q (.bl (betw v lo hi)) H
def gQ_:Sp:=fun vs H Q _=>∃a xs lo hi,vs=[.ref a,.int lo,.int hi]/\H a=some (.lst xs)/\xs.length<=1000/\(∀x∈xs,Thing H x)/\∀H',Same H H'->Q (.bl (xs.all fun x=>betw x lo hi)) H'
def dr_:Sp:=fun vs H Q _=>∃f a c b ps ws,vs=[.ref f]/\FrAt H f a c b ps ws/\∀H',Same H H'->Q (.bl true) H'
def K_:Sp:=fun vs H Q _=>∃f a c b ps ws,vs=[.ref f]/\FrAt H f a c b ps ws/\∀H',Same H H'->Q .non H'
def bi_:Sp:=fun vs H Q _=>∃f a c b ps ws,vs=[.ref f]/\FrAt H f a c b ps ws/\∀H',Same H H'->Q (.int ((b ^ ps.sum:Nat):Int)) H'
def bh_:Sp:=fun vs H Q _=>∃f a c b ps ws,∃n:Nat,vs=[.ref f,.int n]/\FrAt H f a c b ps ws/\n<b ^ ps.sum/\∀H',Same H H'->Q .non H'
def cc_:Sp:=fun vs H Q _=>∃f a c b ps ws,∃n:Nat,vs=[.ref f,.int n]/\FrAt H f a c b ps ws/\n<b ^ ps.sum/\
 ∀r H',H r=none->Same H H'->H' r=some (.lst (natV (Ma.dws b n ps.sum ps.sum)))->Q (.ref r) H'
theorem mm_{ps:List Nat}{lo hi:Nat}(h:∀p∈ps,lo<=p/\p<=hi):((natV ps).all fun x=>betw x lo hi)=true:=by
 rw[List.all_eq_true]
 intro x hx
 obtain⟨p,hp,rfl⟩:=List.mem_map.mp hx
 have:=h p hp
 simp only[betw,Bool.and_eq_true,decide_eq_true_eq]
 omega
theorem mn_{ws:List Int}{lo hi:Int}(h:∀p∈ws,lo<=p/\p<=hi):((ws.map V.int).all fun x=>betw x lo hi)=true:=by
 rw[List.all_eq_true]
 intro x hx
 obtain⟨p,hp,rfl⟩:=List.mem_map.mp hx
 have:=h p hp
 simp only[betw,Bool.and_eq_true,decide_eq_true_eq]
 omega
theorem gK_{H:Hp}(ws:List Int):∀x∈ws.map V.int,Thing H x:=fun x hx=>by
 obtain⟨p,_,rfl⟩:=List.mem_map.mp hx
 exact .int p
theorem gJ_{H:Hp}(ps:List Nat):∀x∈natV ps,Thing H x:=fun x hx=>by
 obtain⟨p,_,rfl⟩:=List.mem_map.mp hx
 exact .int p
def top (i : Nat) : Stmt := PySem.Challenge.pw_likehalves_k36_whole_as_anew.main.body.getD i (.Pass ⟨0, 0, 0, 0⟩)
abbrev kJ_:Stmt:=top 13
abbrev sBetw:Stmt:=top 14
abbrev iq_:Stmt:=top 15
abbrev eO_:Stmt:=top 16
abbrev cB_:Stmt:=top 17
abbrev eP_:Stmt:=top 18
abbrev bP_:Stmt:=top 19
abbrev sCut:Stmt:=top 20
abbrev cE_:Stmt:=top 21
abbrev aM_:Stmt:=top 22
abbrev dC_:Stmt:=top 23
abbrev hd_:Stmt:=top 24
abbrev eM_:Stmt:=top 26
abbrev ip_:Stmt:=top 27
abbrev bw_:Stmt:=top 28
abbrev dy_:Stmt:=top 29
abbrev he_:Stmt:=top 30
abbrev cG_:Stmt:=top 31
abbrev dB_:Stmt:=top 32
abbrev eL_:Stmt:=top 33
abbrev hb_:Stmt:=top 34
abbrev by_:Stmt:=top 35
abbrev cF_:Stmt:=top 36
abbrev bx_:Stmt:=top 38
abbrev bz_:Stmt:=top 39
abbrev bo_:Stmt:=top 40
abbrev dz_:Stmt:=top 41
abbrev cA_:Stmt:=top 43
abbrev aA_:Stmt:=top 44
abbrev ao_:Stmt:=top 45
abbrev T_:Stmt:=top 46
abbrev bT_:Stmt:=top 47
abbrev au_:Stmt:=top 48
abbrev aH_:Stmt:=top 49
abbrev dA_:Stmt:=top 50
abbrev eQ_:Stmt:=top 51
abbrev hc_:Stmt:=top 52
abbrev hf_:Stmt:=top 54
abbrev aW_:Stmt:=top 55
abbrev sCell:Stmt:=top 58
abbrev kK_:Stmt:=top 59
abbrev sTake:Stmt:=top 60
abbrev is_:Stmt:=top 61
abbrev sCopy:Stmt:=top 62
abbrev sMany:Stmt:=top 63
abbrev sLawD:Stmt:=top 64
abbrev aB_:Stmt:=top 65
abbrev L_:Stmt:=top 66
abbrev cC_:Stmt:=top 67
abbrev sDue:Stmt:=top 68
abbrev bp_:Stmt:=top 69
abbrev cD_:Stmt:=top 70
abbrev sLaw:Stmt:=top 71
abbrev bR_:Stmt:=bX_ (top 56) 0
abbrev aC_:Stmt:=bX_ (top 56) 1
abbrev aX_:Stmt:=bX_ (top 56) 2
abbrev bq_:Stmt:=bX_ (top 56) 3
abbrev bQ_:Stmt:=bX_ (top 56) 4
abbrev bS_:Stmt:=bX_ (top 56) 5
abbrev aG_:Stmt:=bX_ (top 56) 6
end Hv
namespace L2
open PySem PySem.Spec PyProof.Rows
section
variable{κ:Type}[DecidableEq κ]
def valV(kvs:List (κ×V))(k:κ):Option V:=(kvs.find? fun kv=>decide (kv.1=k)).map (·.2)
def putK(kvs:List (κ×V))(k:κ)(v:V):List (κ×V) :=
 if (kvs.any fun kv=>decide (kv.1=k))=true then kvs.map (fun kv=>if kv.1=k then (kv.1,v) else kv) else kvs++[(k,v)]
theorem cW_{p:κ×V}{r:List (κ×V)}{k:κ}(e:p.1=k):valV (p::r) k=some p.2:=by simp[valV,List.find?_cons,e]
theorem cX_{p:κ×V}{r:List (κ×V)}{k:κ}(e:¬ p.1=k):valV (p::r) k=valV r k:=by simp[valV,List.find?_cons,e]
theorem hV_(k:κ):∀kvs:List (κ×V),(kvs.any fun kv=>decide (kv.1=k))=(valV kvs k).isSome
 | []=>rfl
 | p::r=>by
  rw[List.any_cons]
  by_cases e:p.1=k
  ·simp only[cW_ e,decide_eq_true e,Bool.true_or,Option.isSome_some]
  ·rw[cX_ e,decide_eq_false e,Bool.false_or];exact hV_ k r
theorem bW_(kvs:List (κ×V))(k:κ)(v:V):(putK kvs k v).length<=kvs.length+1:=by
 unfold putK
 split
 ·rw[List.length_map];omega
 ·rw[List.length_append,List.length_cons,List.length_nil];omega
theorem RelO.isSome_eq{o:Option V}{u:Option Value}(r:RelO o u):o.isSome=u.isSome:=by
 cases o with
 | none=>cases u with
  | none=>rfl
  | some _=>exact(show False from r).elim
 | some _=>cases u with
  | none=>exact(show False from r).elim
  | some _=>rfl
theorem RelO.getD{o:Option V}{u:Option Value}{d:V}{d':Value}(r:RelO o u)(rd:RelV d d'):RelV (o.getD d) (u.getD d'):=by
 cases o with
 | none=>cases u with
  | none=>exact rd
  | some _=>exact(show False from r).elim
 | some _=>cases u with
  | none=>exact(show False from r).elim
  | some _=>exact r
theorem KV.val{kvs:List (κ×V)}{vs:List (κ×Value)}(r:KV kvs vs)(k:κ):RelO (valV kvs k) (valueAt vs k):=by
 unfold KV at r
 induction r with
 | nil=>exact True.intro
 | @cons p q ps qs h t ih =>
  obtain⟨h1,h2⟩:=h
  by_cases e:p.1=k
  ·have e':q.1=k:=h1.symm.trans e
   have b:valueAt (q::qs) k=some q.2:=by simp[valueAt,List.find?_cons,e']
   rw[cW_ e,b];exact h2
  ·have e':¬ q.1=k:=fun z=>e (h1.trans z)
   have b:valueAt (q::qs) k=valueAt qs k:=by simp[valueAt,List.find?_cons,e']
   rw[cX_ e,b];exact ih
theorem KV.any{kvs:List (κ×V)}{vs:List (κ×Value)}(r:KV kvs vs)(k:κ):(kvs.any fun kv=>decide (kv.1=k))=vs.any fun kv=>decide (kv.1=k):=by
 unfold KV at r
 induction r with
 | nil=>rfl
 | cons h t ih=>rw[List.any_cons,List.any_cons,ih,h.1]
theorem KV.repl{kvs:List (κ×V)}{vs:List (κ×Value)}(r:KV kvs vs)(k:κ){y:V}{u:Value}(ry:RelV y u) :
  KV (kvs.map fun kv=>if kv.1=k then (kv.1,y) else kv) (vs.map fun kv=>if kv.1=k then (kv.1,u) else kv):=by
 unfold KV at r⊢
 induction r with
 | nil=>exact .nil
 | @cons p q ps qs h t ih =>
  rw[List.map_cons,List.map_cons]
  refine .cons ?_ ih
  obtain⟨h1,h2⟩:=h
  by_cases e:p.1=k
  ·rw[if_pos e,if_pos (h1.symm.trans e)];exact⟨h1,ry⟩
  ·rw[if_neg e,if_neg (fun z=>e (h1.trans z))];exact⟨h1,h2⟩
theorem KV.put{kvs:List (κ×V)}{vs:List (κ×Value)}(r:KV kvs vs)(k:κ){y:V}{u:Value}(ry:RelV y u):KV (putK kvs k y) (stored vs k u):=by
 unfold putK stored
 rw[r.any k]
 by_cases e:(vs.any fun kv=>decide (kv.1=k))=true
 ·rw[if_pos e,if_pos e];exact r.repl k ry
 ·rw[if_neg e,if_neg e];exact Paired.snoc r ⟨rfl,ry⟩
theorem KV.keys{kvs:List (κ×V)}{vs:List (κ×Value)}(r:KV kvs vs):kvs.map (·.1)=vs.map (·.1):=by
 unfold KV at r
 induction r with
 | nil=>rfl
 | cons h t ih=>rw[List.map_cons,List.map_cons,ih,h.1]
theorem KV.length{kvs:List (κ×V)}{vs:List (κ×Value)}(r:KV kvs vs):kvs.length=vs.length:=Paired.length r
end
theorem jK_{P:Program}{w:World}{k:Key}{u:Value}(r:RelV (kV k) u):(u_ P w).is k u=true:=by
 cases k with
 | inl i=>obtain⟨t,e⟩:=(show ∃t,u=Value.int i t from r);subst e;exact hD_ P w i t
 | inr x=>obtain⟨t,e⟩:=(show ∃t,u=Value.str x t from r);subst e;exact hC_ P w x t
theorem gm_{P:Program}{w:World}:∀ {ks:List Key} {us:List Value},Vals (ks.map kV) us->ItemsAre (u_ P w) ks us
 | [],_,r=>by rw[List.map_nil] at r;cases r;exact .nil
 | k::ks,_,r=>by
  rw[List.map_cons] at r
  cases r with
  | cons h t=>exact .cons (jK_ h) (gm_ t)
abbrev KT(H:Hp):List (List Key×V)->List (List Key×Addr×Value)->Prop:=Paired fun p q=>p.1=q.1/\H q.2.1=some (.tup (p.1.map kV))/\RelV p.2 q.2.2
theorem KT.val{H:Hp}{kvs:List (List Key×V)}{xs:List (List Key×Addr×Value)}(r:KT H kvs xs)(k:List Key):RelO (valV kvs k) ((atKey xs k).map (·.2)):=by
 induction r with
 | nil=>exact True.intro
 | @cons p q ps qs h t ih =>
  obtain⟨h1,_,h2⟩:=h
  by_cases e:p.1=k
  ·have e':q.1=k:=h1.symm.trans e
   have b:atKey (q::qs) k=some q.2:=by simp[atKey,List.find?_cons,e']
   rw[cW_ e,b];exact h2
  ·have e':¬ q.1=k:=fun z=>e (h1.trans z)
   have b:atKey (q::qs) k=atKey qs k:=by simp[atKey,List.find?_cons,e']
   rw[cX_ e,b];exact ih
theorem KT.repl{H:Hp}{kvs:List (List Key×V)}{xs:List (List Key×Addr×Value)}(r:KT H kvs xs)(k:List Key){y:V}{u:Value}(ry:RelV y u) :
  KT H (kvs.map fun kv=>if kv.1=k then (kv.1,y) else kv) (xs.map (putAt k u)):=by
 induction r with
 | nil=>exact .nil
 | @cons p q ps qs h t ih =>
  rw[List.map_cons,List.map_cons]
  refine .cons ?_ ih
  obtain⟨h1,h2,h3⟩:=h
  unfold putAt
  by_cases e:p.1=k
  ·rw[if_pos e,if_pos (h1.symm.trans e)];exact⟨h1,h2,ry⟩
  ·rw[if_neg e,if_neg (fun z=>e (h1.trans z))];exact⟨h1,h2,h3⟩
theorem KT.put{H:Hp}{kvs:List (List Key×V)}{xs:List (List Key×Addr×Value)}(r:KT H kvs xs)(k:List Key){b:Addr}{y:V}{u:Value}(hb:H b=some (.tup (k.map kV)))(ry:RelV y u) :
  KT H (putK kvs k y) (storedH xs k b u):=by
 have e:(kvs.any fun kv=>decide (kv.1=k))=(atKey xs k).isSome:=by
  rw[hV_,(r.val k).isSome_eq,Option.isSome_map]
 unfold putK storedH
 rw[e]
 by_cases q:(atKey xs k).isSome=true
 ·rw[if_pos q,if_pos q];exact r.repl k ry
 ·rw[if_neg q,if_neg q];exact Paired.snoc r ⟨rfl,hb,ry⟩
theorem KT.keeps{H H':Hp}{kvs:List (List Key×V)}{xs:List (List Key×Addr×Value)}(r:KT H kvs xs)(ht:∀b ys,H b=some (.tup ys)->H' b=some (.tup ys)):KT H' kvs xs :=
 Paired.mapP r fun _ _ z=>⟨z.1,ht _ _ z.2.1,z.2.2⟩
section
variable{P:Program}{w:World}{H:Hp}{h:Heap}{a:Addr}
theorem qp_{u:HO}(ok:HOk P w H h)(e:Rd H a u):ObjOk P w H h a u:=e.ok ok
theorem gt_{kvs:List (Key×V)}(ok:HOk P w H h)(e:Rd H a (.dK kvs)):kvs.length<=sizeLine/\(a==sysModules)=false/\∃vs,KV kvs vs/\h.DictOf (u_ P w) a vs :=
 show ObjOk P w H h a (.dK kvs) from qp_ ok e
theorem jR_{kvs:List (Key×V)}(ok:HOk P w H h)(e:H a=some (.dK kvs)):kvs.length<=sizeLine/\(a==sysModules)=false/\∃vs,KV kvs vs/\h.DictOf (u_ P w) a vs:=gt_ ok (.inl e)
theorem iV_{ks:List Key}(ok:HOk P w H h)(e:H a=some (.tup (ks.map kV))):(tupleKind (u_ P w)).is h ks a:=by
 obtain⟨_,its,r,o,h1,h2,n,h3⟩:=(show ObjOk P w H h a (.tup (ks.map kV)) from ok a _ e)
 exact⟨o,its.toArray,n,h1,h2,h3,by simpa using gm_ r⟩
theorem lU_{kvs:List (List Key×V)}(ok:HOk P w H h)(e:Rd H a (.dT kvs)):kvs.length<=sizeLine/\(a==sysModules)=false/\
  ∃xs,KT H kvs xs/\h.DictOfH (tupleKind (u_ P w)) a xs:=by
 obtain⟨z,y,xs,r,o,es,ep,h1,h2,h3,h4,h5⟩:=(show ObjOk P w H h a (.dT kvs) from qp_ ok e)
 refine⟨z,y,xs,r,o,es,ep,h1,h2,h3,h4,fun x hx=>?_,h5⟩
 have all:∀ {l:List (List Key×V)} {m:List (List Key×Addr×Value)},KT H l m->∀x∈m,(tupleKind (u_ P w)).is h x.1 x.2.1:=by
  intro l m q
  induction q with
  | nil=>intro x hx;exact nomatch hx
  | @cons p q ps qs hq t ih =>
   intro x hx
   rcases List.mem_cons.mp hx with e | hx
   ·subst e
    exact iV_ ok (by rw[<-hq.1];exact hq.2.1)
   ·exact ih x hx
 exact all r x hx
theorem ry_{kvs:List (List Key×V)}(ok:HOk P w H h)(e:H a=some (.dT kvs)):kvs.length<=sizeLine/\(a==sysModules)=false/\
  ∃xs,KT H kvs xs/\h.DictOfH (tupleKind (u_ P w)) a xs:=lU_ ok (.inl e)
end
def DGet(H:Hp)(a:Addr)(y:V)(r:Option V):Prop :=
 (∃kvs k,Rd H a (.dK kvs)/\y=kV k/\r=valV kvs k)\/∃kvs k b,Rd H a (.dT kvs)/\y=.ref b/\H b=some (.tup (k.map kV))/\r=valV kvs k
def DPut(H:Hp)(a:Addr)(y v:V)(H':Hp):Prop :=
 (∃kvs k,H a=some (.dK kvs)/\y=kV k/\kvs.length<sizeLine/\H'=upd H a (.dK (putK kvs k v)))\/
 ∃kvs k b,H a=some (.dT kvs)/\y=.ref b/\H b=some (.tup (k.map kV))/\kvs.length<sizeLine/\H'=upd H a (.dT (putK kvs k v))
theorem DPut.k{H:Hp}{a:Addr}{kvs:List (Key×V)}{k:Key}{v:V}(e:H a=some (.dK kvs))(hl:kvs.length<sizeLine):DPut H a (kV k) v (upd H a (.dK (putK kvs k v))):=.inl ⟨kvs,k,e,rfl,hl,rfl⟩
section
variable{X:Cx}{pins:List (Addr×Obj)}{σ:St}{H:Hp}{s:Shared}{a:Addr}{y v:V}{u r:Value}{o:Option V}{A:Around}{E:Value->Shared->Prop}
theorem Inv.big(I:Inv X pins σ H s):sysModules<s.heap.objs.size:=by
 have h:mainGlobals<s.heap.objs.size:=(I.mod.glob.keeps I.bk).lt
 exact Nat.lt_trans (by decide) h
theorem mc_{Q:Value->Shared->Prop}(hu:A.units+1<cLine)(I:Inv X pins σ H s)(g:DGet H a y (some v))(ry:RelV y u)(h:∀w' s',Inv X pins σ H s'->RelV v w'->Q w' s') :
  wpAny (model X.prog X.w) A (getItem (.ref a) u) Q E s:=by
 rcases g with⟨kvs,k,e,ey,l⟩ | ⟨kvs,k,b,e,ey,eb,l⟩
 ·subst ey
  obtain⟨z,hd,vs,rel,dd⟩:=gt_ I.hok e
  obtain⟨w',hw,rw'⟩:=RelO.some_of (v:=v) (o:=valueAt vs k) (by rw[l];exact rel.val k)
  exact wpAny_getItem_of (jK_ ry) dd.mapOf hw (h w' _ (I.tok _) rw')
 ·subst ey
  cases (show u=Value.ref b from ry)
  obtain⟨z,hd,xs,rel,dd⟩:=lU_ I.hok e
  obtain⟨w',hw,rw'⟩:=RelO.some_of (v:=v) (o:=(atKey xs k).map (·.2)) (by rw[l];exact rel.val k)
  obtain⟨p,hp,hp2⟩:=Option.map_eq_some_iff.mp hw
  refine wpAny_getItem_heap (tupleKind_room_in1 hu) (iV_ I.hok eb) dd hp ?_
  rw[hp2]
  exact h w' _ (I.tok _) rw'
theorem hM_{h':Heap}{t':Nat}{ob:HO}(I:Inv X pins σ H s)(mu:Mut (H a))(hs:Heap.SameBut a s.heap h')(he:∃q,h'.get? a=some q)(new:ObjOk X.prog X.w (upd H a ob) h' a ob) :
  Inv X pins σ (upd H a ob) {s with heap:=h',toks:=t'} :=
 I.write (x:=a) (e:=a) mu (.inl rfl) (fun b q hb z=>(hs.2 b hb).trans z) he new
theorem lX_{P:Program}{w:World}{H':Hp}{h':Heap}{kvs:List (Key×V)}{vs:List (Key×Value)}(z:kvs.length<=sizeLine)(hd:(a==sysModules)=false)(rel:KV kvs vs)(dd:h'.DictOf (u_ P w) a vs) :
  ObjOk P w H' h' a (.dK kvs):=⟨z,hd,vs,rel,dd⟩
theorem mb_{H':Hp}{Q:Unit->Shared->Prop}(hu:A.units+1<cLine)(I:Inv X pins σ H s)(g:DPut H a y v H')(ry:RelV y u)(rv:RelV v r)(h:∀s',Inv X pins σ H' s'->Q () s') :
  wpAny (model X.prog X.w) A (setItem (.ref a) u r) Q E s:=by
 rcases g with⟨kvs,k,e,ey,l,eH⟩ | ⟨kvs,k,b,e,ey,eb,l,eH⟩
 ·subst ey eH
  obtain⟨z,hd,vs,rel,dd⟩:=jR_ I.hok e
  have hz:vs.length<=sizeLine:=by rw[<-rel.length];exact z
  have hl:(putK kvs k v).length<=sizeLine:=by have:=bW_ kvs k v;omega
  refine wpAny_setItem_pairs (hsz:=hz) (jK_ ry) dd fun h' dd' hs=>h _ ?_
  have he:∃q,h'.get? a=some q:=let ⟨q,_,_,hq,_⟩:=dd';⟨q,hq⟩
  exact hM_ I (by rw[e];exact True.intro) hs he (lX_ hl hd (rel.put k rv) dd')
 ·subst ey eH
  cases (show u=Value.ref b from ry)
  obtain⟨z,hd,xs,rel,dd⟩:=ry_ I.hok e
  have hz:xs.length<=sizeLine:=by rw[<-Paired.length rel];exact z
  have hl:(putK kvs k v).length<=sizeLine:=by have:=bW_ kvs k v;omega
  refine wpAny_setItem_heap (hsz:=hz) (tupleKind_room_in1 hu) (iV_ I.hok eb) dd fun h' dd' hs=>h _ ?_
  obtain⟨q,es,ep,hq,h2,h3,h4,_,h5⟩:=dd'
  refine hM_ I (by rw[e];exact True.intro) hs ⟨q,hq⟩ ⟨hl,hd,_,(rel.put k eb rv).keeps fun c ys ec=>?_,q,es,ep,hq,h2,h3,h4,h5⟩
  rw[i_ (pu_ ec e (fun z=>nomatch z))]
  exact ec
end
section
variable{X:Cx}{pins:List (Addr×Obj)}{σ:St}{H:Hp}{s:Shared}{a:Addr}{kvs:List (Key×V)}{k:Key}{u:Value}{A:Around}{E:Value->Shared->Prop}
end
def NoSl(i:Expr):Prop:=∀ov iv,subscripted i false ov iv=operate [ov,iv] (getItem ov iv)
theorem oN_{prog:Program}{w:World}{A:Around}{E:Value->Shared->Prop}{s:Shared}{env:Env}{value slice:Expr}{pos:Pos}{T id:String}{Q:Value->Shared->Prop}
  (hl:typeLookup (.type T) "__getitem__"=pure (some (.builtin id))) (hs:NoSl slice)
  (h:wpAny (model prog w) A (eval value env) (fun o s₁=>wpAny (model prog w) A (eval slice env) (fun i s₂=>s₂.TypeIs o T/\wpAny (model prog w) A (getItem o i) Q E s₂) E s₁) E s) :
  wpAny (model prog w) A (eval (.Subscript value slice pos) env) Q E s:=by
 refine Subscript_ (wpAny_mono h (fun o s₁ h₁=>wpAny_mono h₁ (fun i s₂ h₂=>?_) fun _ _ x=>x) fun _ _ x=>x)
 obtain⟨hT,h₂⟩:=h₂
 unfold subscriptTail
 refine wpAny_bind ?_
 rw[getitemInPython_of_ne hT.not_modules]
 refine wpAny_bind (wpAny_specialOf hT hl ?_)
 have fin:wpAny (model prog w) A (subscripted slice false o i) (fun r s₃=>wpAny (model prog w) A (letTemporaryGo value o r>>=fun _=>pure r) Q E s₃) E s₂:=by
  rw[hs o i]
  exact wpAny_operating (wpAny_mono h₂ (fun r s₃ h₃=>wpAny_bind (wpAny_letTemporaryGo (wpAny_pure h₃))) fun _ _ x=>x)
 first
  | exact wpAny_pure (wpAny_bind fin)
  | exact wpAny_bind (wpAny_pure (wpAny_bind fin))
  | exact wpAny_bind fin
theorem hL_{X:Cx}{pins:List (Addr×Obj)}{σ:St}{H:Hp}{s:Shared}{a:Addr}{y:V}{o:Option V}(I:Inv X pins σ H s)(g:DGet H a y o):s.TypeIs (.ref a) "dict":=by
 rcases g with⟨kvs,k,e,_,_⟩ | ⟨kvs,k,b,e,_,_,_⟩
 ·obtain⟨_,_,vs,_,dd⟩:=gt_ I.hok e
  exact dd.typeIs
 ·obtain⟨_,_,xs,_,dd⟩:=lU_ I.hok e
  exact dd.typeIs
def tDGet(td ty:TE):TE:=fun σ H Q=>td σ H fun x H1=>ty σ H1 fun y H2=>∃a v,x=.ref a/\DGet H2 a y (some v)/\Q v H2
def sDPut(td ty tv:TE):TS:=fun D σ H=>tv σ H fun v H1=>td σ H1 fun x H2=>ty σ H2 fun y H3=>∃a H4,x=.ref a/\DPut H3 a y v H4/\D.nx σ H4
section
variable{X:Cx}{o i e value:Expr}{pos pos' tpos:Pos}{td ty tv:TE}
theorem hm_(hu:X.A.units+1<cLine)(ho:PE X o td)(hi:PE X i ty)(hs:NoSl i):PE X (.Subscript o i pos) (tDGet td ty):=by
 intro pins s σ H Q I h
 refine oN_ PySem.F.slot_dict_getitem.lookup hs (thn (ho pins s σ H _ I h) fun u s1 ⟨x,H1,I1,rx,q1⟩=>thn (hi pins s1 σ H1 _ I1 q1) fun iv s2 ⟨y,H2,I2,ry,a,v,ex,g,q2⟩=>?_)
 subst ex
 obtain rfl:u=Value.ref a:=rx
 exact⟨hL_ I2 g,mc_ hu I2 g ry fun w' s3 I3 rw'=>⟨v,H2,I3,rw',q2⟩⟩
theorem hi_(hu:X.A.units+1<cLine)(ho:PE X o td)(hi:PE X i ty)(hv:PE X value tv)(hs:swapsWith value (some (.Subscript o i pos')) pos.line X.env=pure false) :
  PS X (.Assign [.Subscript o i pos'] value pos) (sDPut td ty tv):=by
 intro pins s σ H D I h
 refine wpAny_Assign_Subscript (thn (hv pins s σ H _ I h) fun r s1 ⟨v,H1,I1,rv,q1⟩=>thn (ho pins s1 σ H1 _ I1 q1) fun u s2 ⟨x,H2,I2,rx,q2⟩=>thn (hi pins s2 σ H2 _ I2 q2) fun iv s3 ⟨y,H3,I3,ry,a,H4,ex,g,q3⟩=>?_) hs
 subst ex
 obtain rfl:u=Value.ref a:=rx
 exact mb_ hu I3 g ry rv fun s4 I4=>⟨σ,H4,I4,q3⟩
end
theorem ja_{P:Program}{w:World}{H:Hp}(h:Heap)(hb:sysModules<h.objs.size):ObjOk P w H (h.push {cls:=.type "dict",data:=.dict #[]}) h.objs.size (.dK []) :=
 ⟨Nat.zero_le _,beq_eq_false_iff_ne.mpr (Ne.symm (Nat.ne_of_lt hb)),[],.nil,Heap.DictOf.new h⟩
def qk_:TE:=fun _ H Q=>∀p,H p=none->Q (.ref p) (upd H p (.dK []))
section
variable{X:Cx}{pos:Pos}
theorem de_:PE X (.Dict [] [] pos) qk_:=fun pins s σ H Q I h =>
 wpAny_Dict_empty ⟨.ref s.heap.objs.size,_,I.laid (a:=s.heap.objs.size) (o:=.dK []) (t':=s.toks) (fun _ _ q=>Heap.get?_push_of_some _ q) (Nat.le_refl _) (ja_ s.heap I.big),rfl,h _ (I.hok.fresh (Nat.le_refl _))⟩
end
def kp_:List (TE×TE)->St->Hp->(List (V×V)->Hp->Prop)->Prop
 | [],_,H,Q=>Q [] H
 | (tk,tv)::r,σ,H,Q=>tk σ H fun x H1=>tv σ H1 fun y H2=>kp_ r σ H2 fun ps H3=>Q ((x,y)::ps) H3
abbrev VV:List (V×V)->List (Value×Value)->Prop:=Paired fun p q=>RelV p.1 q.1/\RelV p.2 q.2
def PPs(X:Cx)(pos:Pos)(keys:List (Option Expr))(values:List Expr)(trs:List (TE×TE)):Prop :=
 ∀(pins:List (Addr×Obj)) (s:Shared) (σ:St) (H:Hp) (Q:List (V×V)->Hp->Prop),Inv X pins σ H s->kp_ trs σ H Q->
  wpAny (model X.prog X.w) X.A (evalPairs (pairTrees keys values X.env pos)) (fun vs s'=>∃ps H',Inv X pins σ H' s'/\VV ps vs/\Q ps H') X.xe s
theorem oZ_{X:Cx}{pos:Pos}:PPs X pos [] [] []:=fun pins s σ H Q I h=>pairTrees_nil_walk ⟨[],H,I,.nil,h⟩
theorem mL_{X:Cx}{pos:Pos}{k v:Expr}{ks:List (Option Expr)}{vs:List Expr}{tk tv:TE}{trs:List (TE×TE)}(hk:PE X k tk)(hv:PE X v tv)(hr:PPs X pos ks vs trs) :
  PPs X pos (some k::ks) (v::vs) ((tk,tv)::trs):=fun pins s σ H Q I h =>
 pairTrees_cons_walk (thn (hk pins s σ H _ I h) fun u s1 ⟨x,H1,I1,rx,q1⟩=>thn (hv pins s1 σ H1 _ I1 q1) fun w2 s2 ⟨y,H2,I2,ry,q2⟩ =>
  thn (hr pins s2 σ H2 _ I2 q2) fun ws s3 ⟨ps,H3,I3,rel,q3⟩=>⟨(x,y)::ps,H3,I3,.cons ⟨rx,ry⟩ rel,q3⟩)
def aN_(kvs more:List (Key×V)):List (Key×V):=more.foldl (fun acc kv=>putK acc kv.1 kv.2) kvs
theorem KV.merge:∀ {more:List (Key×V)} {rs:List (Key×Value)} {kvs:List (Key×V)} {vs:List (Key×Value)},KV more rs->KV kvs vs->KV (aN_ kvs more) (merged vs rs):=by
 intro more rs kvs vs r
 unfold KV at r
 induction r generalizing kvs vs with
 | nil=>intro q;exact q
 | @cons p q ps qs h t ih =>
  intro r0
  have e:KV (putK kvs p.1 p.2) (stored vs q.1 q.2):=by
   have:=r0.put p.1 h.2
   rw[<-h.1];exact this
  exact ih e
theorem bb_:∀(more kvs:List (Key×V)),(aN_ kvs more).length<=kvs.length+more.length
 | [],kvs=>by show kvs.length<=kvs.length+0;omega
 | p::r,kvs=>by
  have h1:=bb_ r (putK kvs p.1 p.2)
  have h2:=bW_ kvs p.1 p.2
  show(aN_ (putK kvs p.1 p.2) r).length<=_
  rw[List.length_cons];omega
theorem et_{P:Program}{w:World}:∀ {kvs:List (Key×V)} {ws:List (Value×Value)},VV (kvs.map fun kv=>(kV kv.1,kv.2)) ws->∃rs,Carries (u_ P w) ws rs/\KV kvs rs
 | [],_,r=>by rw[List.map_nil] at r;cases r;exact⟨[],True.intro,.nil⟩
 | p::kvs,_,r=>by
  rw[List.map_cons] at r
  cases r with
  | @cons a b as bs h t =>
   obtain⟨rs,c,q⟩:=et_ (P:=P) (w:=w) t
   obtain⟨b1,b2⟩:=b
   exact⟨(p.1,b2)::rs,⟨jK_ h.1,rfl,c⟩,.cons ⟨rfl,h.2⟩ q⟩
def tDisp(trs:List (TE×TE)):TE:=fun σ H Q=>∀p,H p=none->kp_ trs σ (upd H p (.dK [])) fun ps H2=>H2 p=some (.dK [])/\∃kvs:List (Key×V),ps=kvs.map (fun kv=>(kV kv.1,kv.2))/\kvs.length<=15/\Q (.ref p) (upd H2 p (.dK (aN_ [] kvs)))
theorem pf_{X:Cx}{pos:Pos}{keys:List (Option Expr)}{values:List Expr}{trs:List (TE×TE)}(h:PPs X pos keys values trs)(hall:keys.all (·.isSome)=true)(hl:keys.length=values.length)(h0:keys≠[])
  (h15:keys.length<=15):PE X (.Dict keys values pos) (tDisp trs):=by
 intro pins s σ H Q I q
 have hn:=I.hok.fresh (Nat.le_refl s.heap.objs.size)
 have I1:=I.laid (a:=s.heap.objs.size) (o:=.dK []) (h':=s.heap.push {cls:=.type "dict",data:=.dict #[]}) (t':=s.toks) (fun _ _ q=>Heap.get?_push_of_some _ q) (Nat.le_refl _) (ja_ s.heap I.big)
 refine wpAny_Dict_walk (knd:=u_ X.prog X.w) hall hl h0 h15 (thn (h pins _ σ _ _ I1 (q _ hn)) fun ws s2 ⟨ps,H2,I2,rel,e,kvs,ep,lk,q2⟩=>?_)
 subst ep
 obtain⟨rs,c,rk⟩:=et_ (P:=X.prog) (w:=X.w) rel
 obtain⟨z,hd,vs0,r0,dd⟩:=jR_ I2.hok e
 cases r0
 refine⟨rs,c,dd,fun h' dd' hs=>⟨.ref s.heap.objs.size,_,?_,rfl,q2⟩⟩
 have hz:(aN_ [] kvs).length<=sizeLine:=by
  have h1:=bb_ kvs []
  rw[List.length_nil] at h1
  rw[sizeLine_eq];omega
 have he:∃q,h'.get? s.heap.objs.size=some q:=let ⟨q,_,_,hq,_⟩:=dd';⟨q,hq⟩
 exact hM_ I2 (by rw[e];exact True.intro) hs he (lX_ hz hd (rk.merge .nil) dd')
structure M2(X:Cx)(o:Expr)(m:Str)(apos:Pos)(e f:Expr)(cpos:Pos):Prop where
 base:attributeBase o m X.env (eval o X.env)=eval o X.env
 few:((backTo cpos (starEach [e,f] X.env)).all (fun x=>!x.1)&&(backToKw cpos (keywordEach [] X.env)).all (fun x=>x.1.isSome)
  && decide (([e,f]:List Expr).length+([]:List Keyword).length+(if ([]:List Keyword).isEmpty then 0 else 1)<30))=true
 line:(apos.endLine==cpos.line)=true
 trees:backTo cpos (starEach [e,f] X.env)=[(false,eval e X.env),(false,eval f X.env)]
def IsD(H:Hp)(a:Addr):Prop:=(∃kvs,Rd H a (.dK kvs))\/∃kvs,Rd H a (.dT kvs)
theorem oo_{X:Cx}{pins:List (Addr×Obj)}{σ:St}{H:Hp}{s:Shared}{a:Addr}(I:Inv X pins σ H s)(d:IsD H a) :
  s.TypeIs (.ref a) "dict"/\(∀b,Value.ref a=.ref b->∃ob,s.heap.get? b=some ob/\ob.dict=none)/\(a==sysModules)=false:=by
 rcases d with⟨kvs,e⟩ | ⟨kvs,e⟩
 ·obtain⟨_,hd,vs,_,dd⟩:=gt_ I.hok e
  refine⟨dd.typeIs,fun b q=>?_,hd⟩
  cases q
  obtain⟨ob,_,_,h1,h2,_⟩:=dd
  exact⟨ob,h1,h2.2.1⟩
 ·obtain⟨_,hd,xs,_,dd⟩:=lU_ I.hok e
  refine⟨dd.typeIs,fun b q=>?_,hd⟩
  cases q
  obtain⟨ob,_,_,h1,h2,_⟩:=dd
  exact⟨ob,h1,h2.2.1⟩
section
variable{X:Cx}{pins:List (Addr×Obj)}{σ:St}{H:Hp}{s:Shared}{a:Addr}{y d:V}{u r:Value}{o:Option V}{A:Around}{E:Value->Shared->Prop}
theorem rn_{Q:Value->Shared->Prop}(hu:A.units+1<cLine)(I:Inv X pins σ H s)(g:DGet H a y o)(ry:RelV y u)(rd:RelV d r)(h:∀w' s',Inv X pins σ H s'->RelV (o.getD d) w'->Q w' s') :
  wpAny (model X.prog X.w) A (call (.builtin "dict.get") [.ref a,u,r]) Q E s:=by
 rcases g with⟨kvs,k,e,ey,l⟩ | ⟨kvs,k,b,e,ey,eb,l⟩
 ·subst ey
  obtain⟨z,hd,vs,rel,dd⟩:=gt_ I.hok e
  refine call_meetsIn PySem.F.slot_dict_get dd.typeIs PySem.F.entry_dict_get (PySem.F.args_dict_get_3 _ _ _) (meets_dict_get_default (u_ X.prog X.w) a (jK_ ry) hd r) ⟨_,dd.mapOf,h _ _ (I.tok _) ?_⟩
  rw[l]
  exact(rel.val k).getD rd
 ·subst ey
  cases (show u=Value.ref b from ry)
  obtain⟨z,hd,xs,rel,dd⟩:=lU_ I.hok e
  refine call_meetsIn PySem.F.slot_dict_get dd.typeIs PySem.F.entry_dict_get (PySem.F.args_dict_get_3 _ _ _) (meetsH_dict_get_default (tupleKind (u_ X.prog X.w)) a b hd r) ⟨tupleKind_room_in1 hu,k,xs,iV_ I.hok eb,dd,h _ _ (I.tok _) ?_⟩
  rw[l]
  exact(rel.val k).getD rd
end
def ql_(td ty tx:TE):TE:=fun σ H Q=>td σ H fun x H1=>∃a,x=.ref a/\IsD H1 a/\ty σ H1 fun y H2=>tx σ H2 fun z H3=>∃o,DGet H3 a y o/\Q (o.getD z) H3
section
variable{X:Cx}{o e f:Expr}{apos cpos:Pos}{td ty tx:TE}
theorem df_(hu:X.A.units+1<cLine)(ho:PE X o td)(he:PE X e ty)(hf:PE X f tx)(m:M2 X o "get" apos e f cpos):PE X (.Call (.Attribute o "get" apos) [e,f] [] cpos) (ql_ td ty tx):=by
 intro pins s σ H Q I h
 refine wpAny_Call_method m.base m.few m.line PySem.F.plainAttrs_dict PySem.F.slot_dict_get PySem.F.type_dict_get (thn (ho pins s σ H _ I h) fun u s1 ⟨x,H1,I1,rx,a,ex,d,q1⟩=>?_)
 subst ex
 obtain rfl:u=Value.ref a:=rx
 obtain⟨t1,t2,_⟩:=oo_ I1 d
 refine⟨t1,t2,?_⟩
 rw[m.trees]
 refine Calls.callWith_builtin rfl (Calls.evalArgs_plain (Calls.spliced_cons (thn (he pins s1 σ H1 _ I1 q1) fun iv s2 ⟨y,H2,I2,ry,q2⟩ =>
  Calls.spliced_cons (thn (hf pins s2 σ H2 _ I2 q2) fun fv s3 ⟨z,H3,I3,rz,ov,g,q3⟩=>Calls.spliced_nil ?_))))
 exact rn_ hu I3 g ry rz fun w' s4 I4 rw'=>⟨_,H3,I4,rw',q3⟩
end
section
variable{X:Cx}{pins:List (Addr×Obj)}{σ:St}{H:Hp}{s:Shared}{a:Addr}{kvs:List (Key×V)}{A:Around}{E:Value->Shared->Prop}
end
section
variable{X:Cx}{pins:List (Addr×Obj)}{σ:St}{H:Hp}{s:Shared}{a:Addr}{y:V}{u:Value}{A:Around}{E:Value->Shared->Prop}
end
section
variable{X:Cx}
end
section
variable{κ:Type}[DecidableEq κ]
end
section
variable{X:Cx}
theorem fl_{ns:List Int}{its:List Value}(rv:Vals (ns.map V.int) its){i:Nat}{v:Value}(hv:its[i]?=some v):∃n t,ns[i]?=some n/\v=.int n t:=by
 cases eb:ns[i]? with
 | none =>
  have:=rv.none_of (i:=i) (by rw[List.getElem?_map,eb];rfl)
  rw[this] at hv;cases hv
 | some b =>
  obtain⟨u,hu,ru⟩:=rv.get (i:=i) (x:=.int b) (by rw[List.getElem?_map,eb];rfl)
  rw[hu] at hv;cases hv
  obtain⟨t,rfl⟩:=ru
  exact⟨b,t,rfl,rfl⟩
theorem dQ_(hc:X.calm=true):CallR X (.builtin "max") (fun xs H Q=>∃(p:Addr) (ns:List Int),xs=[.ref p]/\SqL X.K H p (ns.map V.int)/\0<ns.length/\Q (.int (Ma.maxL ns)) H):=by
 intro pins s σ H xs us Q I r h
 obtain⟨p,ns,rfl,hq,hne,q⟩:=h
 obtain⟨u,rfl,rx⟩:=vals1 r
 cases rx
 obtain⟨its,rv,pl,hz⟩:=I.list hq
 have hl:=pl.isList
 have hlt:p<s.heap.objs.size:=by obtain⟨_,e,_⟩:=hl;exact Heap.lt_size e
 have hn:its.toArray.size=ns.length:=by rw[List.size_toArray,<-rv.length,List.length_map]
 have hval:∀(i:Nat) (v:Value),its.toArray[i]?=some v->∃t,v=.int ((fun i=>(ns[i]?).getD 0) i) t:=fun i v hP=>by
  obtain⟨n,t,e,rfl⟩:=fl_ rv (i:=i) (v:=v) (by simpa using hP)
  exact⟨t,by simp[e]⟩
 refine call_max_walk (wpAny_pyIter_list hl ?_)
 refine⟨_,_,_,_,_,_,_,rfl,Walks.list (A:=X.A.in1) (I.ok.hd hc) s.heap.objs.size p (Nat.ne_of_lt hlt) its.toArray,⟨⟨_,Heap.get?_push_size _ rfl,rfl,rfl⟩,hl.push _⟩,fun b hb'=>?_,by lia,CmpOf.ints_gt (fun i=>(ns[i]?).getD 0) hval,fun v h' tk hP hk=>?_⟩
 ·show b<(s.heap.push _).objs.size
  rw[Heap.size_push]
  rcases List.mem_cons.mp hb' with rfl | hb'
  ·exact Nat.lt_succ_self _
  ·have e:b=p:=by simpa using hb'
   rw[e];exact Nat.lt_succ_of_lt hlt
 ·rw[hn] at hP
  have ab:=argBest_gt (fun i=>(ns[i]?).getD 0) (ns.length-1)
  obtain⟨n,t,e,rfl⟩:=fl_ rv (i:=argBest (fun i j=>decide ((ns[i]?).getD 0>(ns[j]?).getD 0)) (ns.length-1)) (v:=v) (by simpa using hP)
  have em:n=Ma.maxL ns:=Ma.dG_ (List.mem_of_getElem? e) fun m hm=>by
   obtain⟨j,hj⟩:=List.getElem?_of_mem hm
   have hjl:=(List.getElem?_eq_some_iff.mp hj).1
   have a2:=ab.2 j (by lia)
   simp only[hj,e,Option.getD_some] at a2
   exact a2
  subst em
  exact⟨.int _,H,(show Inv X pins σ H {s with heap:=h',toks:=tk} from seen I hk),⟨_,rfl⟩,q⟩
theorem ct_(hc:X.calm=true):CallR X (.builtin "min") (fun xs H Q=>∃(p:Addr) (ns:List Int),xs=[.ref p]/\SqL X.K H p (ns.map V.int)/\0<ns.length/\Q (.int (Ma.minL ns)) H):=by
 intro pins s σ H xs us Q I r h
 obtain⟨p,ns,rfl,hq,hne,q⟩:=h
 obtain⟨u,rfl,rx⟩:=vals1 r
 cases rx
 obtain⟨its,rv,pl,hz⟩:=I.list hq
 have hl:=pl.isList
 have hlt:p<s.heap.objs.size:=by obtain⟨_,e,_⟩:=hl;exact Heap.lt_size e
 have hn:its.toArray.size=ns.length:=by rw[List.size_toArray,<-rv.length,List.length_map]
 have hval:∀(i:Nat) (v:Value),its.toArray[i]?=some v->∃t,v=.int ((fun i=>(ns[i]?).getD 0) i) t:=fun i v hP=>by
  obtain⟨n,t,e,rfl⟩:=fl_ rv (i:=i) (v:=v) (by simpa using hP)
  exact⟨t,by simp[e]⟩
 refine call_min_walk (wpAny_pyIter_list hl ?_)
 refine⟨_,_,_,_,_,_,_,rfl,Walks.list (A:=X.A.in1) (I.ok.hd hc) s.heap.objs.size p (Nat.ne_of_lt hlt) its.toArray,⟨⟨_,Heap.get?_push_size _ rfl,rfl,rfl⟩,hl.push _⟩,fun b hb'=>?_,by lia,CmpOf.ints_lt (fun i=>(ns[i]?).getD 0) hval,fun v h' tk hP hk=>?_⟩
 ·show b<(s.heap.push _).objs.size
  rw[Heap.size_push]
  rcases List.mem_cons.mp hb' with rfl | hb'
  ·exact Nat.lt_succ_self _
  ·have e:b=p:=by simpa using hb'
   rw[e];exact Nat.lt_succ_of_lt hlt
 ·rw[hn] at hP
  have ab:=argBest_lt (fun i=>(ns[i]?).getD 0) (ns.length-1)
  obtain⟨n,t,e,rfl⟩:=fl_ rv (i:=argBest (fun i j=>decide ((ns[i]?).getD 0<(ns[j]?).getD 0)) (ns.length-1)) (v:=v) (by simpa using hP)
  have em:n=Ma.minL ns:=Ma.dF_ (List.mem_of_getElem? e) fun m hm=>by
   obtain⟨j,hj⟩:=List.getElem?_of_mem hm
   have hjl:=(List.getElem?_eq_some_iff.mp hj).1
   have a2:=ab.2 j (by lia)
   simp only[hj,e,Option.getD_some] at a2
   exact a2
  subst em
  exact⟨.int _,H,(show Inv X pins σ H {s with heap:=h',toks:=tk} from seen I hk),⟨_,rfl⟩,q⟩
end
theorem oU_{k:Key}{v:Value}(h:keyIs k v=true):RelV (kV k) v:=by
 rcases x_ h with⟨i,t,rfl,rfl⟩ | ⟨x,t,rfl,rfl⟩ <;> exact⟨_,rfl⟩
theorem KV.at{kvs:List (Key×V)}{vs:List (Key×Value)}(r:KV kvs vs):∀ {i:Nat} {p:Key×V},kvs[i]?=some p->∃u,vs[i]?=some (p.1,u)/\RelV p.2 u:=by
 unfold KV at r
 induction r with
 | nil=>intro i p e;simp at e
 | @cons a b as bs h t ih =>
  intro i p e
  cases i with
  | zero =>
   simp at e
   subst e
   exact⟨b.2,by rw[h.1];rfl,h.2⟩
  | succ i=>simpa using ih (i:=i) (p:=p) (by simpa using e)
section
variable{X:Cx}{pins:List (Addr×Obj)}{σ:St}{H:Hp}{s:Shared}{a:Addr}{o:Obj}{kvs:List (Key×V)}
theorem Inv.freeze(I:Inv X pins σ H s)(e:H a=some (.dK kvs))(ho:s.heap.get? a=some o):Inv X pins σ (upd H a (.frz o (.dK kvs))) s :=
 I.write (x:=a) (e:=a) (t':=s.toks) (h':=s.heap) (by rw[e];trivial) (.inl rfl) (fun b q _ z=>z) ⟨o,ho⟩ ⟨ho,I.hok a _ e⟩
theorem Inv.thaw(I:Inv X pins σ H s)(e:H a=some (.frz o (.dK kvs)))(hb:∀o u,X.H₀ a≠some (.frz o u)):Inv X pins σ (upd H a (.dK kvs)) s:=by
 have ne:∀b,H b=none->b≠a:=fun b n z=>by rw[z,e] at n;cases n
 refine⟨I.ok,I.os,I.bare,⟨I.base.keep,I.base.slot,fun b ob q n hx=>?_,I.base.there,fun b xs q=>?_,fun b ob u q=>?_,fun b ps q=>?_⟩,I.loc,I.cell,?_,fun x c q=>?_,fun p hp=>?_,fun b u q=>?_,I.len⟩
 ·have:=I.base.free b ob q n hx
  rw[i_ (ne b this)];exact this
 ·have q':=I.base.tups b xs q
  rw[i_ (fun z=>by rw[z,e] at q';cases q')];exact q'
 ·have q':=I.base.frzs b ob u q
  rw[i_ (fun z=>hb ob u (by rw[<-z];exact q))];exact q'
 ·obtain⟨m,q'⟩:=I.base.tbls b ps q
  exact⟨m,by rw[i_ (fun z=>by rw[z,e] at q';cases q')];exact q'⟩
 ·rw[i_ (ne _ I.free)];exact I.free
 ·rw[i_ (ne _ (I.freeC x c q))];exact I.freeC x c q
 ·obtain⟨h1,h2,h3⟩:=I.pin p hp
  exact⟨h1,by rw[i_ (ne _ h2)];exact h2,h3⟩
 ·by_cases hba:b=a
  ·subst hba
   rw[d_] at q
   cases q
   exact(I.hok b _ e).2
  ·rw[i_ hba] at q
   refine(I.hok b u q).stay (fun _ _ _ z=>z) (fun c z=>?_) fun c xs z=>?_
   ·rw[i_ (fun y=>by rw[y,e] at z;cases z)];exact z
   ·rw[i_ (fun y=>by rw[y,e] at z;cases z)];exact z
def tThaw(H₀:Hp)(u:TS):TS:=fun D σ H=>∃a o kvs,H a=some (.frz o (.dK kvs))/\(∀o u,H₀ a≠some (.frz o u))/\u D σ (upd H a (.dK kvs))
theorem eT_{rest:List Stmt}{u:TS}(h:PSs X rest u):PSs X rest (tThaw X.H₀ u):=fun pins s σ H D I q=>by
 obtain⟨a,o,kvs,e,hb,q⟩:=q
 exact h pins s σ _ D (I.thaw e hb) q
end
def Itd(a:Addr)(o:Obj)(kvs:List (Key×V)):It :=
 ⟨fun i H=>H a=some (.frz o (.dK kvs))/\i<kvs.length,fun i H x H'=>H'=H/\∃k v,kvs[i]?=some (k,v)/\x=kV k,fun i H=>H a=some (.frz o (.dK kvs))/\kvs.length<=i⟩
theorem kh_{P:Program}{w:World}{K:PySem.W.Frag}{tg:Expr}{a it:Addr}{o:Obj}{kvs:List (Key×V)}{vs:List (Key×Value)}{ep:Nat}(rel:KV kvs vs)
  (da:∀h:Heap,h.get? a=some o->h.DictAt (u_ P w) a vs ep):Turn P w K tg (Itd a o kvs) [it] it (fun i h=>h.IsKeyIter it a i vs.length ep) where
 mem:=by simp
 obj:=fun i h st b hb=>by
  have e:b=it:=by simpa using hb
  subst e
  obtain⟨o,e,c,d⟩:=st
  exact⟨o,e,fun v z=>by rw[d] at z;cases z⟩
 keep:=fun i h h' st k=>st.at fun o e=>k it (by simp) o e
 item:=by
  intro X hP hw hK hc i pins s σ H E I hf st hg
  subst hP hw hK
  obtain⟨hq,hi⟩:=hg
  obtain⟨f0,f1,f2,f3,f4,f5⟩:=hf it (by simp)
  have hx:kvs[i]?=some kvs[i]:=by simp[hi]
  obtain⟨u,hu,ru⟩:=rel.at hx
  refine wpAny_pyNext_dict_item st (da _ (I.hok a _ hq).1) hu fun key h' hk st' sb=>?_
  have I1:Inv X pins σ H {s with heap:=h'}:=I.turned (t':=s.toks) (fun b o hb e=>(sb.2 b hb).trans e) f0 f1 f3 f4 f5
  obtain⟨oi,e,c,d⟩:=id st'
  exact⟨key,rfl,pC_ (s:={s with heap:=h'}) e c d (by decide) ⟨kV (kvs[i]).1,H,I1,oU_ hk,⟨rfl,(kvs[i]).1,(kvs[i]).2,hx,rfl⟩,st',fun b hb=>(hf b hb).1⟩⟩
 done:=by
  intro X hP hw hK hc i pins s σ H E I hf st hg
  subst hP hw hK
  obtain⟨hq,hi⟩:=hg
  obtain⟨f0,f1,f2,f3,f4,f5⟩:=hf it (by simp)
  have hl:=rel.length
  exact wpAny_pyNext_dict_end (I.ok.hd hc) st (da _ (I.hok a _ hq).1) (by simp;lia) fun h' eb=>⟨rfl,I.turned (t':=s.toks) (fun b o hb e=>eb b o hb e) f0 f1 f3 f4 f5⟩
 self:=fun _ _ _ _ _ st h=>wpAny_pyIter_keyiter st h
def iDict(tl:TE):TI:=fun σ H R=>tl σ H fun x H1=>∃a kvs,x=.ref a/\H1 a=some (.dK kvs)/\∀o,R (Itd a o kvs) (upd H1 a (.frz o (.dK kvs)))
theorem hk_{X:Cx}{tg l:Expr}{tl:TE}(hl:PE X l tl):PI X tg l (iDict tl):=by
 intro pins s σ H R I h
 refine thn (hl pins s σ H _ I h) fun v s1 ⟨x,H1,I1,r1,q1⟩=>?_
 obtain⟨a,kvs,e,he,q⟩:=q1
 subst e
 cases r1
 obtain⟨z,hd,vs,rel,o,es,ep,ho,dd⟩:=jR_ I1.hok he
 refine wpAny_pyIter_dict hd (ep:=ep) ⟨o,es,ho,dd⟩ ?_
 have I2:=I1.freeze he ho
 refine⟨s1.heap.objs.size,[s1.heap.objs.size],_,_,_,rfl,I2.kept (t':=s1.toks) fun b o e=>Heap.get?_push_of_some _ e,kh_ (ep:=ep) rel fun h e=>⟨o,es,e,dd⟩,⟨_,Heap.get?_push_size _ rfl,rfl,rfl⟩,fun b hb=>?_,q o⟩
 have e:b=s1.heap.objs.size:=by simpa using hb
 subst e
 exact I2.fpOk (Nat.le_refl _) (I2.hok.fresh (Nat.le_refl _))
theorem fn_{a:Addr}{o:Obj}{kvs:List (Key×V)}{g:TG}{tb:TS}{D:Ends}{σ:St}{H:Hp}(Pv:Nat->St->Hp->Prop)(h0:Pv 0 σ H)(hl:∀i σ H,i<=kvs.length->Pv i σ H->H a=some (.frz o (.dK kvs)))
  (hs:∀i k v σ H,kvs[i]?=some (k,v)->Pv i σ H->g (kV k) σ H fun σ2 H2=>tb {D with nx:=Pv (i+1),ct:=Pv (i+1),bk:=D.nx} σ2 H2) (hd:∀ σ H,Pv kvs.length σ H->D.nx σ H) :
  ∃W:Nat->Nat->St->Hp->Prop,(∃m,W 0 m σ H)/\∀i m σ H,W i m σ H->
   ((Itd a o kvs).stop i H/\D.nx σ H)\/((Itd a o kvs).go i H/\∃N:St->Hp->Prop,(∀ σ' H',N σ' H'->∃m',m'<m/\W (i+1) m' σ' H')/\∀x H',(Itd a o kvs).yld i H x H'->g x σ H' fun σ2 H2=>tb {D with nx:=N,ct:=N,bk:=D.nx} σ2 H2):=by
 refine⟨fun i m σ H=>m=kvs.length-i/\i<=kvs.length/\Pv i σ H,⟨kvs.length,by simp,Nat.zero_le _,h0⟩,?_⟩
 rintro i m σ H ⟨rfl,hi,p⟩
 have q:=hl i σ H hi p
 by_cases hlt:i<kvs.length
 ·refine .inr ⟨⟨q,hlt⟩,Pv (i+1),fun σ' H' p'=>⟨kvs.length-(i+1),by lia,rfl,hlt,p'⟩,fun x H' y=>?_⟩
  obtain⟨e,k,v,hk,rfl⟩:=y
  subst e
  exact hs i k v σ _ hk p
 ·have e:i=kvs.length:=by lia
  subst e
  exact .inl ⟨⟨q,Nat.le_refl _⟩,hd σ H p⟩
end L2
namespace Srt
open PySem PyProof.Rows
structure Ok(a₀:Array Keyed)(p:Array (Nat×Nat×Nat))(st:SortSt):Prop where
 perm:(arrOf st).Perm a₀
 kind:kindOf st=oneType'
 failed:failedOf st=none
 pend:pendingOf st=p
abbrev IntK(x:Keyed):Prop:=∃n t,x.1=.int n t
section
variable{prog:Program}{w:World}{A:Around}{E:Value->Shared->Prop}{s:Shared}{a₀:Array Keyed}{p:Array (Nat×Nat×Nat)}{st:SortSt}
theorem Ok.size(h:Ok a₀ p st):(arrOf st).size=a₀.size:=h.perm.size_eq
theorem Ok.set(h:Ok a₀ p st){xs:Array Keyed}(hp:xs.Perm (arrOf st)):Ok a₀ p (setArr st xs):=⟨hp.trans h.perm,h.kind,h.failed,h.pend⟩
theorem Ok.keys(h:Ok a₀ p st)(h0:IntKeys a₀):IntKeys (arrOf st):=fun x hx=>h0 x ((Array.perm_iff_toList_perm.mp h.perm).mem_iff.mp hx)
theorem U_{xs:Array Keyed}(h:IntKeys xs){i:Nat}(hi:i<xs.size):IntK xs[i]:=h _ (by simp)
theorem ft_{x y:Keyed}{Q:Option Bool->SortSt->Prop}(hk:kindOf st=oneType')(hx:IntK x)(hy:IntK y)(h:∀r,Q (some r) st):wpS (model prog w) A E s (lt' x y) Q st:=by
 obtain⟨a,t,hx⟩:=hx
 obtain⟨b,u,hy⟩:=hy
 rw[lt'_eq]
 refine wpS_bind (wpS_get ?_)
 rw[hk,keyLt'_oneType,hx,hy]
 refine wpS_bind (wpS_lift (wpAny_attempt (oneLt_int ⟨rfl,?_⟩)))
 exact wpS_pure (h _)
theorem t_{arr:Array Keyed}{i:Nat}{Q:Keyed->SortSt->Prop}(hi:i<arr.size)(h:Q arr[i] st):wpS (model prog w) A E s (elem' arr i) Q st:=by
 rw[elem'_eq,getElem?_pos arr i hi]
 exact wpS_pure h
theorem ar_{i j:Nat}{Q:Option Bool->SortSt->Prop}(ok:Ok a₀ p st)(h0:IntKeys a₀)(hi:i<a₀.size)(hj:j<a₀.size)(h:∀r,Q (some r) st):wpS (model prog w) A E s (ltAt' i j) Q st:=by
 rw[ltAt'_eq]
 refine wpS_bind (wpS_get ?_)
 have sz:=ok.size
 have hk:=ok.keys h0
 exact wpS_bind (t_ (by lia) (wpS_bind (t_ (by lia) (ft_ ok.kind (U_ hk _) (U_ hk _) h))))
theorem aQ_{i j:Nat}{Q:Unit->SortSt->Prop}(ok:Ok a₀ p st)(h:∀st',Ok a₀ p st'->Q () st'):wpS (model prog w) A E s (reverseSlice' i j) Q st:=by
 rw[reverseSlice'_eq]
 exact wpS_modify (h _ (ok.set (mirror_perm _ _ _ _)))
theorem mt_{i j:Nat}{Q:Unit->SortSt->Prop}(ok:Ok a₀ p st)(h:∀st',Ok a₀ p st'->Q () st'):wpS (model prog w) A E s (moveDown' i j) Q st:=by
 rw[moveDown'_eq]
 exact wpS_modify (h _ (ok.set (bubble_perm _ _ _)))
theorem jY_{lo nrem:Nat}{Q:Option Nat->SortSt->Prop}(h0:IntKeys a₀)(hn:lo+nrem<=a₀.size)(h1:1<=nrem)(ok:Ok a₀ p st)
  (h:∀m st',Ok a₀ p st'->1<=m->m<=nrem->Q (some m) st'):wpS (model prog w) A E s (countRun' lo nrem) Q st:=by
 rw[countRun'_eq]
 refine wpS_bind (wpS_mono (wpS_forRange (I:=fun x c st'=>c=(none,x)/\Ok a₀ p st') (Q:=fun c st'=>∃n,c=(none,n)/\1<=n/\n<=nrem/\Ok a₀ p st') ?step ?fin ⟨rfl,ok⟩) ?post)
 case step =>
  rintro x c st' hx1 hx2 ⟨rfl,ok'⟩
  refine wpS_bind (ar_ ok' h0 (by lia) (by lia) fun r=>?_)
  cases r with
  | true=>exact wpS_pure ⟨x,rfl,hx1,by lia,ok'⟩
  | false=>exact wpS_pure ⟨rfl,ok'⟩
 case fin =>
  rintro c st' ⟨rfl,ok'⟩
  exact⟨max 1 nrem,rfl,by lia,by lia,ok'⟩
 case post =>
  rintro c st' ⟨n,rfl,hn1,hn2,ok'⟩
  dsimp only
  by_cases hnn:n=nrem
  ·rw[if_pos (by simpa using hnn)]
   exact wpS_pure (h n _ ok' hn1 hn2)
  ·rw[if_neg (by simpa using hnn)]
   by_cases hgt:n>1
   ·rw[if_pos hgt]
    refine wpS_bind (ar_ ok' h0 (by lia) (by lia) fun r=>?_)
    cases r with
    | true=>exact wpS_pure (h n _ ok' hn1 hn2)
    | false =>
     dsimp only
     rw[if_neg Bool.false_ne_true]
     refine wpS_bind (aQ_ ok' fun st4 ok4=>?_)
     refine wpS_bind (wpS_lift (wpAny_rule ⟨rfl,?_⟩))
     refine wpS_bind (wpS_mono (wpS_forRange (I:=fun x c st'=>(∃q,c=(none,x,q))/\Ok a₀ p st') (Q:=fun c st'=>∃m q,c=(none,m,q)/\1<=m/\m<=nrem/\Ok a₀ p st') ?_ ?_ ⟨⟨0,rfl⟩,ok4⟩) ?_)
     ·rintro x c st' hx1 hx2 ⟨⟨q,rfl⟩,ok'⟩
      dsimp only
      refine wpS_bind (ar_ ok' h0 (by lia) (by lia) fun r=>?_)
      cases r with
      | true =>
       dsimp only
       by_cases hq:q>0
       ·rw[if_pos rfl,if_pos hq]
        exact wpS_bind (aQ_ ok' fun st2 ok2=>wpS_pure ⟨⟨0,rfl⟩,ok2⟩)
       ·rw[if_pos rfl,if_neg hq]
        exact wpS_pure ⟨⟨0,rfl⟩,ok'⟩
      | false =>
       dsimp only
       rw[if_neg Bool.false_ne_true]
       refine wpS_bind (ar_ ok' h0 (by lia) (by lia) fun r=>?_)
       cases r with
       | true=>exact wpS_pure ⟨x,q,rfl,by lia,by lia,ok'⟩
       | false=>exact wpS_pure ⟨⟨q+1,rfl⟩,ok'⟩
     ·rintro c st' ⟨⟨q,rfl⟩,ok'⟩
      exact⟨_,q,rfl,by lia,by lia,ok'⟩
     ·rintro c st' ⟨m,q,rfl,hm1,hm2,ok2⟩
      dsimp only
      by_cases hq:q>0
      ·rw[if_pos hq]
       refine wpS_bind (aQ_ ok2 fun st3 ok3=>?_)
       refine wpS_bind (aQ_ ok3 fun stY okY=>?_)
       refine wpS_bind (wpS_mono (wpS_forRange (I:=fun x c st'=>c=(none,x)/\Ok a₀ p st') (Q:=fun c st'=>∃n,c=(none,n)/\1<=n/\n<=nrem/\Ok a₀ p st') ?_ ?_ ⟨rfl,okY⟩) ?_)
       ·rintro x c st' hx1 hx2 ⟨rfl,ok'⟩
        refine wpS_bind (ar_ ok' h0 (by lia) (by lia) fun r=>?_)
        cases r with
        | true=>exact wpS_pure ⟨x,rfl,by lia,by lia,ok'⟩
        | false=>exact wpS_pure ⟨rfl,ok'⟩
       ·rintro c st' ⟨rfl,ok'⟩
        exact⟨_,rfl,by lia,by lia,ok'⟩
       ·rintro c st' ⟨n,rfl,hn1,hn2,ok'⟩
        exact wpS_pure (h n _ ok' hn1 hn2)
      ·rw[if_neg hq]
       refine wpS_bind (aQ_ ok2 fun stY okY=>?_)
       refine wpS_bind (wpS_mono (wpS_forRange (I:=fun x c st'=>c=(none,x)/\Ok a₀ p st') (Q:=fun c st'=>∃n,c=(none,n)/\1<=n/\n<=nrem/\Ok a₀ p st') ?_ ?_ ⟨rfl,okY⟩) ?_)
       ·rintro x c st' hx1 hx2 ⟨rfl,ok'⟩
        refine wpS_bind (ar_ ok' h0 (by lia) (by lia) fun r=>?_)
        cases r with
        | true=>exact wpS_pure ⟨x,rfl,by lia,by lia,ok'⟩
        | false=>exact wpS_pure ⟨rfl,ok'⟩
       ·rintro c st' ⟨rfl,ok'⟩
        exact⟨_,rfl,by lia,by lia,ok'⟩
       ·rintro c st' ⟨n,rfl,hn1,hn2,ok'⟩
        exact wpS_pure (h n _ ok' hn1 hn2)
   ·rw[if_neg hgt]
    refine wpS_bind (wpS_lift (wpAny_rule ⟨rfl,?_⟩))
    refine wpS_bind (wpS_mono (wpS_forRange (I:=fun x c st'=>(∃q,c=(none,x,q))/\Ok a₀ p st') (Q:=fun c st'=>∃m q,c=(none,m,q)/\1<=m/\m<=nrem/\Ok a₀ p st') ?_ ?_ ⟨⟨0,rfl⟩,ok'⟩) ?_)
    ·rintro x c st' hx1 hx2 ⟨⟨q,rfl⟩,ok'⟩
     dsimp only
     refine wpS_bind (ar_ ok' h0 (by lia) (by lia) fun r=>?_)
     cases r with
     | true =>
      dsimp only
      by_cases hq:q>0
      ·rw[if_pos rfl,if_pos hq]
       exact wpS_bind (aQ_ ok' fun st2 ok2=>wpS_pure ⟨⟨0,rfl⟩,ok2⟩)
      ·rw[if_pos rfl,if_neg hq]
       exact wpS_pure ⟨⟨0,rfl⟩,ok'⟩
     | false =>
      dsimp only
      rw[if_neg Bool.false_ne_true]
      refine wpS_bind (ar_ ok' h0 (by lia) (by lia) fun r=>?_)
      cases r with
      | true=>exact wpS_pure ⟨x,q,rfl,by lia,by lia,ok'⟩
      | false=>exact wpS_pure ⟨⟨q+1,rfl⟩,ok'⟩
    ·rintro c st' ⟨⟨q,rfl⟩,ok'⟩
     exact⟨_,q,rfl,by lia,by lia,ok'⟩
    ·rintro c st' ⟨m,q,rfl,hm1,hm2,ok2⟩
     dsimp only
     by_cases hq:q>0
     ·rw[if_pos hq]
      refine wpS_bind (aQ_ ok2 fun st3 ok3=>?_)
      refine wpS_bind (aQ_ ok3 fun stY okY=>?_)
      refine wpS_bind (wpS_mono (wpS_forRange (I:=fun x c st'=>c=(none,x)/\Ok a₀ p st') (Q:=fun c st'=>∃n,c=(none,n)/\1<=n/\n<=nrem/\Ok a₀ p st') ?_ ?_ ⟨rfl,okY⟩) ?_)
      ·rintro x c st' hx1 hx2 ⟨rfl,ok'⟩
       refine wpS_bind (ar_ ok' h0 (by lia) (by lia) fun r=>?_)
       cases r with
       | true=>exact wpS_pure ⟨x,rfl,by lia,by lia,ok'⟩
       | false=>exact wpS_pure ⟨rfl,ok'⟩
      ·rintro c st' ⟨rfl,ok'⟩
       exact⟨_,rfl,by lia,by lia,ok'⟩
      ·rintro c st' ⟨n,rfl,hn1,hn2,ok'⟩
       exact wpS_pure (h n _ ok' hn1 hn2)
     ·rw[if_neg hq]
      refine wpS_bind (aQ_ ok2 fun stY okY=>?_)
      refine wpS_bind (wpS_mono (wpS_forRange (I:=fun x c st'=>c=(none,x)/\Ok a₀ p st') (Q:=fun c st'=>∃n,c=(none,n)/\1<=n/\n<=nrem/\Ok a₀ p st') ?_ ?_ ⟨rfl,okY⟩) ?_)
      ·rintro x c st' hx1 hx2 ⟨rfl,ok'⟩
       refine wpS_bind (ar_ ok' h0 (by lia) (by lia) fun r=>?_)
       cases r with
       | true=>exact wpS_pure ⟨x,rfl,by lia,by lia,ok'⟩
       | false=>exact wpS_pure ⟨rfl,ok'⟩
      ·rintro c st' ⟨rfl,ok'⟩
       exact⟨_,rfl,by lia,by lia,ok'⟩
      ·rintro c st' ⟨n,rfl,hn1,hn2,ok'⟩
       exact wpS_pure (h n _ ok' hn1 hn2)
theorem oE_{lo n ok:Nat}{Q:Bool->SortSt->Prop}(h0:IntKeys a₀)(hn:lo+n<=a₀.size)(hB:Ok a₀ p st)(h:∀st',Ok a₀ p st'->Q true st'):wpS (model prog w) A E s (binarySort' lo n ok) Q st:=by
 rw[binarySort'_eq]
 refine wpS_bind (wpS_mono (wpS_forRange (I:=fun k c st'=>c=(none,())/\Ok a₀ p st') (Q:=fun c st'=>c=(none,())/\Ok a₀ p st') ?step (fun _ _ z=>z) ⟨rfl,hB⟩) ?post)
 case post =>
  rintro c st' ⟨rfl,ok'⟩
  exact wpS_pure (h _ ok')
 case step =>
  rintro k c st' hk1 hk2 ⟨rfl,ok'⟩
  dsimp only
  refine wpS_bind (wpS_mono (wpS_forRange (I:=fun _ c st2=>(∃l r,c=(none,l,r)/\r<=k)/\Ok a₀ p st2) (Q:=fun c st2=>(∃l r,c=(none,l,r)/\r<=k)/\Ok a₀ p st2) ?_ (fun _ _ z=>z) ⟨⟨0,k,rfl,Nat.le_refl _⟩,ok'⟩) ?_)
  ·rintro x c st2 _ _ ⟨⟨l,r,rfl,hr⟩,ok2⟩
   dsimp only
   by_cases hlr:l>=r
   ·rw[if_pos hlr]
    exact wpS_pure ⟨⟨l,r,rfl,hr⟩,ok2⟩
   ·rw[if_neg hlr]
    refine wpS_bind (ar_ ok2 h0 (by lia) (by lia) fun less=>?_)
    cases less with
    | true=>exact wpS_pure ⟨⟨l,(l+r) / 2,rfl,by lia⟩,ok2⟩
    | false=>exact wpS_pure ⟨⟨(l+r) / 2+1,r,rfl,hr⟩,ok2⟩
  ·rintro c st2 ⟨⟨l,r,rfl,hr⟩,ok2⟩
   dsimp only
   exact wpS_bind (mt_ ok2 fun st3 ok3=>wpS_pure ⟨rfl,ok3⟩)
end
end Srt
namespace Srt
open PySem PyProof.Rows
def lI_:Bool->Keyed->Array Keyed->Nat->Nat->Nat->StateT SortSt Sem (Option Nat):=sortPriv% PySem.Builtin.gallop
section
variable{prog:Program}{w:World}{A:Around}{E:Value->Shared->Prop}{s:Shared}{st:SortSt}
theorem aK_{left:Bool}{key:Keyed}{arr:Array Keyed}{i:Nat}{Q:Option Bool->SortSt->Prop}(hk:kindOf st=oneType')(h0:IntKeys arr)(hkey:IntK key)(hi:i<arr.size)(h:∀r,Q (some r) st) :
  wpS (model prog w) A E s (elem' arr i>>=fun x=>if left=true then lt' x key else lt' key x>>=fun r=>pure (Option.map (fun x=>!x) r)) Q st:=by
 refine wpS_bind (t_ hi ?_)
 cases left with
 | true=>exact ft_ hk (U_ h0 hi) hkey h
 | false=>exact wpS_bind (ft_ hk hkey (U_ h0 hi) fun r=>wpS_pure (h _))
theorem ae_{left:Bool}{key:Keyed}{arr:Array Keyed}{base n hint:Nat}{Q:Option Nat->SortSt->Prop}(hk:kindOf st=oneType')(h0:IntKeys arr)(hkey:IntK key)(hb:base+n<=arr.size)(hh:hint<n)
  (h:∀k,k<=n->Q (some k) st):wpS (model prog w) A E s (lI_ left key arr base n hint) Q st:=by
 unfold lI_
 show wpS _ _ _ _ (_>>=_) _ _
 dsimp only
 refine wpS_bind (aK_ hk h0 hkey (by lia) fun right=>?_)
 cases right with
 | true =>
  dsimp only
  rw[if_pos rfl]
  refine wpS_bind (wpS_mono (wpS_forRange (I:=fun _ c st2=>(∃l r,c=(none,l,r))/\st=st2) (Q:=fun c st2=>(∃l r,c=(none,l,r))/\st=st2) ?_ (fun _ _ z=>z) ⟨⟨_,_,rfl⟩,rfl⟩) ?_)
  ·rintro x c st2 _ _ ⟨⟨l,r,rfl⟩,rfl⟩
   dsimp only
   by_cases hlr:r>=n-hint
   ·rw[if_pos hlr]
    exact wpS_pure ⟨⟨l,r,rfl⟩,rfl⟩
   ·rw[if_neg hlr]
    refine wpS_bind (aK_ hk h0 hkey (by lia) fun more=>?_)
    cases more with
    | true=>exact wpS_pure ⟨⟨_,_,rfl⟩,rfl⟩
    | false=>exact wpS_pure ⟨⟨_,_,rfl⟩,rfl⟩
  ·rintro c st2 ⟨⟨l,r,rfl⟩,rfl⟩
   dsimp only
   refine wpS_bind (wpS_mono (wpS_forRange (I:=fun _ c st2=>(∃l r,c=(none,l,r)/\r<=n)/\st=st2) (Q:=fun c st2=>(∃l r,c=(none,l,r)/\r<=n)/\st=st2) ?_ (fun _ _ z=>z) ⟨⟨_,_,rfl,by lia⟩,rfl⟩) ?_)
   ·rintro x c st2 _ _ ⟨⟨l,r,rfl,hr⟩,rfl⟩
    dsimp only
    by_cases hlr:l>=r
    ·rw[if_pos hlr]
     exact wpS_pure ⟨⟨l,r,rfl,hr⟩,rfl⟩
    ·rw[if_neg hlr]
     refine wpS_bind (aK_ hk h0 hkey (by lia) fun more=>?_)
     cases more with
     | true=>exact wpS_pure ⟨⟨l+(r-l) / 2+1,r,rfl,hr⟩,rfl⟩
     | false=>exact wpS_pure ⟨⟨l,l+(r-l) / 2,rfl,by lia⟩,rfl⟩
   ·rintro c st2 ⟨⟨l,r,rfl,hr⟩,rfl⟩
    exact wpS_pure (h _ hr)
 | false =>
  dsimp only
  rw[if_neg Bool.false_ne_true]
  refine wpS_bind (wpS_mono (wpS_forRange (I:=fun _ c st2=>(∃l r,c=(none,l,r))/\st=st2) (Q:=fun c st2=>(∃l r,c=(none,l,r))/\st=st2) ?_ (fun _ _ z=>z) ⟨⟨_,_,rfl⟩,rfl⟩) ?_)
  ·rintro x c st2 _ _ ⟨⟨l,r,rfl⟩,rfl⟩
   dsimp only
   by_cases hlr:r>=hint+1
   ·rw[if_pos hlr]
    exact wpS_pure ⟨⟨l,r,rfl⟩,rfl⟩
   ·rw[if_neg hlr]
    refine wpS_bind (aK_ hk h0 hkey (by lia) fun more=>?_)
    cases more with
    | true=>exact wpS_pure ⟨⟨_,_,rfl⟩,rfl⟩
    | false=>exact wpS_pure ⟨⟨_,_,rfl⟩,rfl⟩
  ·rintro c st2 ⟨⟨l,r,rfl⟩,rfl⟩
   dsimp only
   refine wpS_bind (wpS_mono (wpS_forRange (I:=fun _ c st2=>(∃l r,c=(none,l,r)/\r<=n)/\st=st2) (Q:=fun c st2=>(∃l r,c=(none,l,r)/\r<=n)/\st=st2) ?_ (fun _ _ z=>z) ⟨⟨_,_,rfl,by lia⟩,rfl⟩) ?_)
   ·rintro x c st2 _ _ ⟨⟨l,r,rfl,hr⟩,rfl⟩
    dsimp only
    by_cases hlr:l>=r
    ·rw[if_pos hlr]
     exact wpS_pure ⟨⟨l,r,rfl,hr⟩,rfl⟩
    ·rw[if_neg hlr]
     refine wpS_bind (aK_ hk h0 hkey (by lia) fun more=>?_)
     cases more with
     | true=>exact wpS_pure ⟨⟨l+(r-l) / 2+1,r,rfl,hr⟩,rfl⟩
     | false=>exact wpS_pure ⟨⟨l,l+(r-l) / 2,rfl,by lia⟩,rfl⟩
   ·rintro c st2 ⟨⟨l,r,rfl,hr⟩,rfl⟩
    exact wpS_pure (h _ hr)
end
end Srt
namespace Srt
open PySem PyProof.Rows
theorem addA{α:Type}{o A B X:List α}(h:o.Perm (A++B)):(o++X).Perm ((A++X)++B):=by
 refine(h.append_right X).trans ?_
 rw[List.append_assoc,List.append_assoc]
 exact List.perm_append_comm.append_left A
theorem addB{α:Type}{o A B X:List α}(h:o.Perm (A++B)):(o++X).Perm (A++(B++X)):=by
 rw[<-List.append_assoc]
 exact h.append_right X
abbrev Outs(a b:Array Keyed)(o:Array Keyed)(i j:Nat):Prop:=o.toList.Perm (a.toList.take i++b.toList.take j)
section
variable{a b o:Array Keyed}{i j k:Nat}
theorem be_(a:Array Keyed)(i k:Nat):(a.extract i (i+k)).toList=(a.toList.drop i).take k:=by
 rw[Array.toList_extract,List.extract_eq_take_drop,Nat.add_sub_cancel_left]
theorem fp_(a:Array Keyed)(i:Nat):(a.extract i a.size).toList=a.toList.drop i:=by
 rw[Array.toList_extract,List.extract_eq_take_drop]
 exact List.take_of_length_le (by simp)
theorem Outs.pushA(h:Outs a b o i j)(hi:i<a.size):Outs a b (o.push a[i]) (i+1) j:=by
 unfold Outs at h⊢
 rw[Array.toList_push,List.take_add_one,show a.toList[i]?=some a[i] by simp[hi]]
 exact addA h
theorem Outs.pushB(h:Outs a b o i j)(hj:j<b.size):Outs a b (o.push b[j]) i (j+1):=by
 unfold Outs at h⊢
 rw[Array.toList_push,List.take_add_one,show b.toList[j]?=some b[j] by simp[hj]]
 exact addB h
theorem Outs.extA(h:Outs a b o i j)(k:Nat):Outs a b (o++a.extract i (i+k)) (i+k) j:=by
 unfold Outs at h⊢
 rw[Array.toList_append,be_,List.take_add]
 exact addA h
theorem Outs.extB(h:Outs a b o i j)(k:Nat):Outs a b (o++b.extract j (j+k)) i (j+k):=by
 unfold Outs at h⊢
 rw[Array.toList_append,be_,List.take_add]
 exact addB h
theorem Outs.done(h:Outs a b o i j):(o++a.extract i a.size++b.extract j b.size).toList.Perm (a.toList++b.toList):=by
 unfold Outs at h
 rw[Array.toList_append,Array.toList_append,fp_,fp_]
 have:=addB (X:=b.toList.drop j) (addA (X:=a.toList.drop i) h)
 rwa [List.take_append_drop,List.take_append_drop] at this
theorem Outs.last(h:Outs a b o i j):(o++b.extract j b.size++a.extract i a.size).toList.Perm (a.toList++b.toList):=by
 unfold Outs at h
 rw[Array.toList_append,Array.toList_append,fp_,fp_]
 have:=addA (X:=a.toList.drop i) (addB (X:=b.toList.drop j) h)
 rwa [List.take_append_drop,List.take_append_drop] at this
end
end Srt
namespace Srt
open PySem PyProof.Rows
def kB_:Nat->StateT SortSt Sem Unit:=sortPriv% PySem.Builtin.setMinGallop
def iN_:Array Keyed->Array Keyed->StateT SortSt Sem (Array Keyed):=sortPriv% PySem.Builtin.mergeLo
abbrev Still(a₀:Array Keyed)(p:Array (Nat×Nat×Nat))(x:Array Keyed)(st:SortSt):Prop:=Ok a₀ p st/\arrOf st=x
section
variable{prog:Program}{w:World}{A:Around}{E:Value->Shared->Prop}{s:Shared}{st:SortSt}{a₀ x₀:Array Keyed}{p:Array (Nat×Nat×Nat)}
theorem bu_{g:Nat}{Q:Unit->SortSt->Prop}(ok:Still a₀ p x₀ st)(h:∀st',Still a₀ p x₀ st'->Q () st'):wpS (model prog w) A E s (kB_ g) Q st:=by
 unfold kB_
 exact wpS_modify (h _ ⟨⟨ok.1.perm,ok.1.kind,ok.1.failed,ok.1.pend⟩,ok.2⟩)
abbrev LoOn(a b:Array Keyed)(m:Nat)(o:Array Keyed)(i j:Nat):Prop:=Outs a b o i j/\i+1<a.size/\j<b.size/\m<=i+j
theorem nbeq{a b:Nat}(h:¬ a=b):¬ (a==b)=true:=fun z=>h (beq_iff_eq.mp z)
theorem G_{α:Type}{x y:Nat}{a b:StateT SortSt Sem α}{Q:α->SortSt->Prop}(h1:x=y->wpS (model prog w) A E s a Q st)(h2:¬ x=y->wpS (model prog w) A E s b Q st):wpS (model prog w) A E s (if (x==y)=true then a else b) Q st:=by
 by_cases h:x=y
 ·rw[if_pos (beq_iff_eq.mpr h)];exact h1 h
 ·rw[if_neg (nbeq h)];exact h2 h
theorem bL_{α:Type}{c:Prop}[Decidable c]{a b:StateT SortSt Sem α}{Q:α->SortSt->Prop}(h1:c->wpS (model prog w) A E s a Q st)(h2:¬ c->wpS (model prog w) A E s b Q st):wpS (model prog w) A E s (if c then a else b) Q st:=by
 by_cases h:c
 ·rw[if_pos h];exact h1 h
 ·rw[if_neg h];exact h2 h
theorem via1{T:Nat->Prop}{G:Prop}(key:∀g',T g')(main:(∀g',T g')->G):G:=main key
theorem via3{T:Array Keyed->Nat->Nat->Prop}{G:Prop}(P:Array Keyed->Nat->Prop)(key:∀o i k,P o i->T o i k)(main:(∀o i k,P o i->T o i k)->G):G:=main key
theorem gG_{a b:Array Keyed}{Q:Array Keyed->SortSt->Prop}(ok:Still a₀ p x₀ st)(ha:IntKeys a)(hb:IntKeys b)(ha1:1<=a.size)(hb1:1<=b.size)
  (h:∀o st',Still a₀ p x₀ st'->o.toList.Perm (a.toList++b.toList)->Q o st'):wpS (model prog w) A E s (iN_ a b) Q st:=by
 unfold iN_
 show wpS _ _ _ _ (_>>=_) _ _
 refine wpS_bind (wpS_lift (wpAny_rule ⟨rfl,?_⟩))
 refine wpS_bind (t_ (by lia) ?_)
 have o1:Outs a b #[b[0]] 0 1:=by
  have:Outs a b #[] 0 0:=by simp[Outs]
  exact this.pushB (by lia)
 refine G_ (fun h1=>wpS_pure (h _ _ ok o1.done)) (fun h1=>?_)
 refine G_ (fun h2=>wpS_pure (h _ _ ok o1.last)) (fun h2=>?_)
 refine wpS_bind (wpS_get ?_)
 refine wpS_bind (wpS_mono (wpS_forRange (I:=fun m c st'=>∃o i j g,c=(none,o,i,j,g)/\LoOn a b m o i j/\Still a₀ p x₀ st')
  (Q:=fun c st'=>∃r rest,c=(some r,rest)/\r.toList.Perm (a.toList++b.toList)/\Still a₀ p x₀ st') ?step ?fin ⟨_,_,_,_,rfl,⟨o1,by lia,by lia,by lia⟩,ok⟩) ?post)
 case fin =>
  rintro c st' ⟨o,i,j,g,rfl,⟨_,h3,h4,h5⟩,_⟩
  lia
 case post =>
  rintro c st' ⟨r,rest,rfl,hp,ok'⟩
  exact wpS_pure (h _ _ ok' hp)
 case step =>
  rintro m c st' _ hm ⟨o,i,j,g,rfl,on,ok'⟩
  refine wpS_bind (wpS_mono (wpS_forRange (I:=fun y c st2=>∃o i j ac bc,c=(none,o,i,j,ac,bc)/\LoOn a b (m+y) o i j/\Still a₀ p x₀ st2)
   (Q:=fun c st2=>(∃o i j ac bc,c=(none,o,i,j,ac,bc)/\LoOn a b (m+1) o i j/\Still a₀ p x₀ st2)\/∃r rest,c=(some r,rest)/\r.toList.Perm (a.toList++b.toList)/\Still a₀ p x₀ st2) ?step1 ?fin1 ⟨_,_,_,_,_,rfl,on,ok'⟩) ?post1)
  case fin1 =>
   rintro c st2 ⟨o,i,j,ac,bc,rfl,⟨q1,q2,q3,q4⟩,ok2⟩
   exact .inl ⟨_,_,_,_,_,rfl,⟨q1,q2,q3,by lia⟩,ok2⟩
  case step1 =>
   rintro y c st2 _ hy ⟨o,i,j,ac,bc,rfl,⟨q1,q2,q3,q4⟩,ok2⟩
   dsimp only
   refine wpS_bind (t_ (by lia) (wpS_bind (t_ (by lia) (wpS_bind (ft_ ok2.1.kind (U_ hb _) (U_ ha _) fun r=>?_)))))
   cases r with
   | true =>
    dsimp only
    rw[if_pos rfl]
    refine wpS_bind (t_ (by lia) ?_)
    refine G_ (fun hz=>wpS_pure (.inr ⟨_,_,rfl,(q1.pushB (by lia)).done,ok2⟩)) (fun hz=>?_)
    split
    ·exact wpS_pure (.inl ⟨_,_,_,_,_,rfl,⟨q1.pushB (by lia),by lia,by lia,by lia⟩,ok2⟩)
    ·exact wpS_pure ⟨_,_,_,_,_,rfl,⟨q1.pushB (by lia),by lia,by lia,by lia⟩,ok2⟩
   | false =>
    dsimp only
    rw[if_neg Bool.false_ne_true]
    refine wpS_bind (t_ (by lia) ?_)
    refine G_ (fun hz=>wpS_pure (.inr ⟨_,_,rfl,(q1.pushA (by lia)).last,ok2⟩)) (fun hz=>?_)
    split
    ·exact wpS_pure (.inl ⟨_,_,_,_,_,rfl,⟨q1.pushA (by lia),by lia,by lia,by lia⟩,ok2⟩)
    ·exact wpS_pure ⟨_,_,_,_,_,rfl,⟨q1.pushA (by lia),by lia,by lia,by lia⟩,ok2⟩
  case post1 =>
   rintro c st2 (⟨o,i,j,ac,bc,rfl,on2,ok2⟩ | ⟨r,rest,rfl,hp,ok2⟩)
   ·dsimp only
    refine wpS_bind (wpS_lift (wpAny_rule ⟨rfl,?_⟩))
    refine wpS_bind (wpS_mono (wpS_forRange (I:=fun _ c st3=>∃o i j g ac bc,c=(none,o,i,j,g,ac,bc)/\LoOn a b (m+1) o i j/\Still a₀ p x₀ st3)
     (Q:=fun c st3=>(∃o i j g ac bc,c=(none,o,i,j,g,ac,bc)/\LoOn a b (m+1) o i j/\Still a₀ p x₀ st3)\/∃r rest,c=(some r,rest)/\r.toList.Perm (a.toList++b.toList)/\Still a₀ p x₀ st3) ?step2 (fun _ _ z=>.inl z) ⟨_,_,_,_,_,_,rfl,on2,ok2⟩) ?post2)
    case post2 =>
     rintro c st3 (⟨o,i,j,g,ac,bc,rfl,on3,ok3⟩ | ⟨r,⟨o,i,j,g,ac,bc⟩,rfl,hp,ok3⟩)
     ·dsimp only
      exact wpS_bind (bu_ ok3 fun st4 ok4=>wpS_pure ⟨_,_,_,_,rfl,on3,ok4⟩)
     ·exact wpS_pure ⟨_,_,rfl,hp,ok3⟩
    case step2 =>
     rintro y c st3 _ _ ⟨o,i,j,g,ac,bc,rfl,⟨q1,q2,q3,q4⟩,ok3⟩
     dsimp only
     refine via1 (T:=?T1) ?key1 ?main1
     case main1 =>
      intro key
      refine bL_ (fun hg=>?_) (fun hg=>?_)
      ·generalize g-1=g'
       exact key g'
      ·with_reducible exact key g
     case key1 =>
      intro g'
      refine wpS_bind (bu_ ok3 fun st4 ok4=>?_)
      refine wpS_bind (t_ (by lia) ?_)
      refine wpS_bind (ae_ ok4.1.kind ha (U_ hb _) (by lia) (by lia) fun k hk=>?_)
      refine bL_ (fun hk0=>?_) (fun hk0=>?_)
      ·skip
       refine G_ (fun hz=>wpS_pure (.inr ⟨_,_,rfl,(q1.extA k).last,ok4⟩)) (fun hz=>?_)
       refine G_ (fun hz2=>wpS_pure (.inr ⟨_,_,rfl,(q1.extA k).done,ok4⟩)) (fun hz2=>?_)
       refine wpS_bind (t_ (by lia) ?_)
       refine G_ (fun hy=>wpS_pure (.inr ⟨_,_,rfl,(Outs.pushB (q1.extA k) (by lia)).done,ok4⟩)) (fun hy=>?_)
       refine wpS_bind (t_ (by lia) ?_)
       refine wpS_bind (ae_ ok4.1.kind hb (U_ ha _) (by lia) (by lia) fun k1 hk1=>?_)
       refine bL_ (fun hk2=>?_) (fun hk2=>?_)
       ·skip
        refine G_ (fun hy2=>wpS_pure (.inr ⟨_,_,rfl,((Outs.pushB (q1.extA k) (by lia)).extB k1).done,ok4⟩)) (fun hy2=>?_)
        refine wpS_bind (t_ (by lia) ?_)
        split
        ·exact wpS_pure (.inr ⟨_,_,rfl,(Outs.pushA ((Outs.pushB (q1.extA k) (by lia)).extB k1) (by lia)).last,ok4⟩)
        ·split
         ·exact wpS_pure (.inl ⟨_,_,_,_,_,_,rfl,⟨Outs.pushA ((Outs.pushB (q1.extA k) (by lia)).extB k1) (by lia),by lia,by lia,by lia⟩,ok4⟩)
         ·exact wpS_pure ⟨_,_,_,_,_,_,rfl,⟨Outs.pushA ((Outs.pushB (q1.extA k) (by lia)).extB k1) (by lia),by lia,by lia,by lia⟩,ok4⟩
       ·skip
        refine wpS_bind (t_ (by lia) ?_)
        split
        ·exact wpS_pure (.inr ⟨_,_,rfl,(Outs.pushA (Outs.pushB (q1.extA k) (by lia)) (by lia)).last,ok4⟩)
        ·split
         ·exact wpS_pure (.inl ⟨_,_,_,_,_,_,rfl,⟨Outs.pushA (Outs.pushB (q1.extA k) (by lia)) (by lia),by lia,by lia,by lia⟩,ok4⟩)
         ·exact wpS_pure ⟨_,_,_,_,_,_,rfl,⟨Outs.pushA (Outs.pushB (q1.extA k) (by lia)) (by lia),by lia,by lia,by lia⟩,ok4⟩
      ·skip
       refine wpS_bind (t_ (by lia) ?_)
       refine G_ (fun hy=>wpS_pure (.inr ⟨_,_,rfl,(Outs.pushB q1 (by lia)).done,ok4⟩)) (fun hy=>?_)
       refine wpS_bind (t_ (by lia) ?_)
       refine wpS_bind (ae_ ok4.1.kind hb (U_ ha _) (by lia) (by lia) fun k1 hk1=>?_)
       refine bL_ (fun hk2=>?_) (fun hk2=>?_)
       ·skip
        refine G_ (fun hy2=>wpS_pure (.inr ⟨_,_,rfl,((Outs.pushB q1 (by lia)).extB k1).done,ok4⟩)) (fun hy2=>?_)
        refine wpS_bind (t_ (by lia) ?_)
        split
        ·exact wpS_pure (.inr ⟨_,_,rfl,(Outs.pushA ((Outs.pushB q1 (by lia)).extB k1) (by lia)).last,ok4⟩)
        ·split
         ·exact wpS_pure (.inl ⟨_,_,_,_,_,_,rfl,⟨Outs.pushA ((Outs.pushB q1 (by lia)).extB k1) (by lia),by lia,by lia,by lia⟩,ok4⟩)
         ·exact wpS_pure ⟨_,_,_,_,_,_,rfl,⟨Outs.pushA ((Outs.pushB q1 (by lia)).extB k1) (by lia),by lia,by lia,by lia⟩,ok4⟩
       ·skip
        refine wpS_bind (t_ (by lia) ?_)
        split
        ·exact wpS_pure (.inr ⟨_,_,rfl,(Outs.pushA (Outs.pushB q1 (by lia)) (by lia)).last,ok4⟩)
        ·split
         ·exact wpS_pure (.inl ⟨_,_,_,_,_,_,rfl,⟨Outs.pushA (Outs.pushB q1 (by lia)) (by lia),by lia,by lia,by lia⟩,ok4⟩)
         ·exact wpS_pure ⟨_,_,_,_,_,_,rfl,⟨Outs.pushA (Outs.pushB q1 (by lia)) (by lia),by lia,by lia,by lia⟩,ok4⟩
   ·obtain⟨o,i,j,ac,bc⟩:=rest
    exact wpS_pure ⟨_,_,rfl,hp,ok2⟩
end
end Srt
namespace Srt
open PySem PyProof.Rows
def iP_:Array Keyed->Array Keyed->StateT SortSt Sem (Array Keyed):=sortPriv% PySem.Builtin.mergeHi
abbrev Behind(a b:Array Keyed)(o:Array Keyed)(i j:Nat):Prop:=o.toList.Perm (a.toList.drop i++b.toList.drop j)
section
variable{a b o:Array Keyed}{i j k:Nat}
theorem putA{α:Type}{o A B X:List α}(h:o.Perm (A++B)):(o++X).Perm ((X++A)++B):=by
 refine List.perm_append_comm.trans ?_
 rw[List.append_assoc]
 exact h.append_left X
theorem putB{α:Type}{o A B X:List α}(h:o.Perm (A++B)):(o++X).Perm (A++(X++B)):=by
 refine(h.append_right X).trans ?_
 rw[List.append_assoc]
 exact List.perm_append_comm.append_left A
theorem lL_(a:Array Keyed){k i:Nat}(h:k<=i):a.toList.drop k=(a.extract k i).toList++a.toList.drop i:=by
 obtain⟨d,rfl⟩:∃d,i=k+d:=⟨i-k,by lia⟩
 rw[be_,<-List.drop_drop,List.take_append_drop]
theorem fo_(a:Array Keyed)(i:Nat):(a.extract 0 i).toList=a.toList.take i:=by
 have:=be_ a 0 i
 rwa [Nat.zero_add] at this
theorem gs_(a:Array Keyed)(h0:1<=i)(hi:i<=a.size):a.toList.drop (i-1)=a[i-1]::a.toList.drop i:=by
 rw[List.drop_eq_getElem_cons (by simp;omega),show i-1+1=i by lia]
 simp
theorem Behind.pushA(h:Behind a b o i j)(h0:1<=i)(hi:i<=a.size):Behind a b (o.push a[i-1]) (i-1) j:=by
 unfold Behind at h⊢
 rw[Array.toList_push,gs_ a h0 hi]
 exact putA (X:=[a[i-1]]) h
theorem Behind.pushB(h:Behind a b o i j)(h0:1<=j)(hj:j<=b.size):Behind a b (o.push b[j-1]) i (j-1):=by
 unfold Behind at h⊢
 rw[Array.toList_push,gs_ b h0 hj]
 exact putB (X:=[b[j-1]]) h
theorem Behind.extA(h:Behind a b o i j)(hk:k<=i):Behind a b (o++(a.extract k i).reverse) k j:=by
 unfold Behind at h⊢
 rw[Array.toList_append,Array.toList_reverse,lL_ a hk]
 exact((List.reverse_perm _).append_left _).trans (putA h)
theorem Behind.extB(h:Behind a b o i j)(hk:k<=j):Behind a b (o++(b.extract k j).reverse) i k:=by
 unfold Behind at h⊢
 rw[Array.toList_append,Array.toList_reverse,lL_ b hk]
 exact((List.reverse_perm _).append_left _).trans (putB h)
theorem ox_{α:Type}(A B:List α){o:List α}(h:o.Perm (A.drop i++B.drop j)):(A.take i++B.take j++o).Perm (A++B):=by
 refine(h.append_left _).trans ?_
 have:(A.take i++B.take j++(A.drop i++B.drop j)).Perm ((A.take i++A.drop i)++(B.take j++B.drop j)):=by
  rw[List.append_assoc,List.append_assoc]
  refine List.Perm.append_left _ ?_
  rw[<-List.append_assoc,<-List.append_assoc]
  exact List.perm_append_comm.append_right _
 rwa [List.take_append_drop,List.take_append_drop] at this
theorem Behind.done(h:Behind a b o i j):(a.extract 0 i++b.extract 0 j++o.reverse).toList.Perm (a.toList++b.toList):=by
 unfold Behind at h
 rw[Array.toList_append,Array.toList_append,fo_,fo_,Array.toList_reverse]
 exact ox_ _ _ ((List.reverse_perm _).trans h)
theorem Behind.first(h:Behind a b o i j):(b.extract 0 j++a.extract 0 i++o.reverse).toList.Perm (a.toList++b.toList):=by
 unfold Behind at h
 rw[Array.toList_append,Array.toList_append,fo_,fo_,Array.toList_reverse]
 exact(List.perm_append_comm.append_right _).trans (ox_ _ _ ((List.reverse_perm _).trans h))
end
section
variable{prog:Program}{w:World}{A:Around}{E:Value->Shared->Prop}{s:Shared}{st:SortSt}{a₀ x₀:Array Keyed}{p:Array (Nat×Nat×Nat)}
abbrev HiOn(a b:Array Keyed)(m:Nat)(o:Array Keyed)(i j:Nat):Prop:=Behind a b o i j/\(1<=i/\i<=a.size)/\(2<=j/\j<=b.size)/\m+i+j<=a.size+b.size
theorem gH_{a b:Array Keyed}{Q:Array Keyed->SortSt->Prop}(ok:Still a₀ p x₀ st)(ha:IntKeys a)(hb:IntKeys b)(ha1:1<=a.size)(hb1:1<=b.size)
  (h:∀o st',Still a₀ p x₀ st'->o.toList.Perm (a.toList++b.toList)->Q o st'):wpS (model prog w) A E s (iP_ a b) Q st:=by
 unfold iP_
 show wpS _ _ _ _ (_>>=_) _ _
 refine wpS_bind (wpS_lift (wpAny_rule ⟨rfl,?_⟩))
 refine wpS_bind (t_ (by lia) ?_)
 have o1:Behind a b #[a[a.size-1]] (a.size-1) b.size:=by
  have:Behind a b #[] a.size b.size:=by simp[Behind]
  exact this.pushA (by lia) (by lia)
 refine G_ (fun h1=>wpS_pure (h _ _ ok o1.done)) (fun h1=>?_)
 refine G_ (fun h2=>wpS_pure (h _ _ ok o1.first)) (fun h2=>?_)
 refine wpS_bind (wpS_get ?_)
 refine wpS_bind (wpS_mono (wpS_forRange (I:=fun m c st'=>∃i j o g,c=(none,i,j,o,g)/\HiOn a b m o i j/\Still a₀ p x₀ st')
  (Q:=fun c st'=>∃r rest,c=(some r,rest)/\r.toList.Perm (a.toList++b.toList)/\Still a₀ p x₀ st') ?step ?fin ⟨_,_,_,_,rfl,⟨o1,by lia,by lia,by lia⟩,ok⟩) ?post)
 case fin =>
  rintro c st' ⟨i,j,o,g,rfl,⟨_,h3,h4,h5⟩,_⟩
  omega
 case post =>
  rintro c st' ⟨r,rest,rfl,hp,ok'⟩
  exact wpS_pure (h _ _ ok' hp)
 case step =>
  rintro m c st' _ hm ⟨i,j,o,g,rfl,on,ok'⟩
  refine wpS_bind (wpS_mono (wpS_forRange (I:=fun y c st2=>∃i j o ac bc,c=(none,i,j,o,ac,bc)/\HiOn a b (m+y) o i j/\Still a₀ p x₀ st2)
   (Q:=fun c st2=>(∃i j o ac bc,c=(none,i,j,o,ac,bc)/\HiOn a b (m+1) o i j/\Still a₀ p x₀ st2)\/∃r rest,c=(some r,rest)/\r.toList.Perm (a.toList++b.toList)/\Still a₀ p x₀ st2) ?step1 ?fin1 ⟨_,_,_,_,_,rfl,on,ok'⟩) ?post1)
  case fin1 =>
   rintro c st2 ⟨i,j,o,ac,bc,rfl,⟨q1,q2,q3,q4⟩,ok2⟩
   exact .inl ⟨_,_,_,_,_,rfl,⟨q1,q2,q3,by lia⟩,ok2⟩
  case step1 =>
   rintro y c st2 _ hy ⟨i,j,o,ac,bc,rfl,⟨q1,q2,q3,q4⟩,ok2⟩
   dsimp only
   refine wpS_bind (t_ (by lia) (wpS_bind (t_ (by lia) (wpS_bind (ft_ ok2.1.kind (U_ hb _) (U_ ha _) fun r=>?_)))))
   cases r with
   | true =>
    dsimp only
    rw[if_pos rfl]
    refine wpS_bind (t_ (by lia) ?_)
    refine G_ (fun hz=>wpS_pure (.inr ⟨_,_,rfl,(q1.pushA (by lia) (by lia)).done,ok2⟩)) (fun hz=>?_)
    split
    ·exact wpS_pure (.inl ⟨_,_,_,_,_,rfl,⟨q1.pushA (by lia) (by lia),by lia,by lia,by lia⟩,ok2⟩)
    ·exact wpS_pure ⟨_,_,_,_,_,rfl,⟨q1.pushA (by lia) (by lia),by lia,by lia,by lia⟩,ok2⟩
   | false =>
    dsimp only
    rw[if_neg Bool.false_ne_true]
    refine wpS_bind (t_ (by lia) ?_)
    refine G_ (fun hz=>wpS_pure (.inr ⟨_,_,rfl,(q1.pushB (by lia) (by lia)).first,ok2⟩)) (fun hz=>?_)
    split
    ·exact wpS_pure (.inl ⟨_,_,_,_,_,rfl,⟨q1.pushB (by lia) (by lia),by lia,by lia,by lia⟩,ok2⟩)
    ·exact wpS_pure ⟨_,_,_,_,_,rfl,⟨q1.pushB (by lia) (by lia),by lia,by lia,by lia⟩,ok2⟩
  case post1 =>
   rintro c st2 (⟨i,j,o,ac,bc,rfl,on2,ok2⟩ | ⟨r,rest,rfl,hp,ok2⟩)
   ·dsimp only
    refine wpS_bind (wpS_lift (wpAny_rule ⟨rfl,?_⟩))
    refine wpS_bind (wpS_mono (wpS_forRange (I:=fun _ c st3=>∃i j o g ac bc,c=(none,i,j,o,g,ac,bc)/\HiOn a b (m+1) o i j/\Still a₀ p x₀ st3)
     (Q:=fun c st3=>(∃i j o g ac bc,c=(none,i,j,o,g,ac,bc)/\HiOn a b (m+1) o i j/\Still a₀ p x₀ st3)\/∃r rest,c=(some r,rest)/\r.toList.Perm (a.toList++b.toList)/\Still a₀ p x₀ st3) ?step2 (fun _ _ z=>.inl z) ⟨_,_,_,_,_,_,rfl,on2,ok2⟩) ?post2)
    case post2 =>
     rintro c st3 (⟨i,j,o,g,ac,bc,rfl,on3,ok3⟩ | ⟨r,⟨i,j,o,g,ac,bc⟩,rfl,hp,ok3⟩)
     ·dsimp only
      exact wpS_bind (bu_ ok3 fun st4 ok4=>wpS_pure ⟨_,_,_,_,rfl,on3,ok4⟩)
     ·exact wpS_pure ⟨_,_,rfl,hp,ok3⟩
    case step2 =>
     rintro y c st3 _ _ ⟨i,j,o,g,ac,bc,rfl,⟨q1,q2,q3,q4⟩,ok3⟩
     dsimp only
     refine via1 (T:=?T1) ?key1 ?main1
     case main1 =>
      intro key
      refine bL_ (fun hg=>?_) (fun hg=>?_)
      ·generalize g-1=g'
       exact key g'
      ·with_reducible exact key g
     case key1 =>
      intro g'
      refine wpS_bind (bu_ ok3 fun st4 ok4=>?_)
      refine wpS_bind (t_ (by lia) ?_)
      refine wpS_bind (ae_ ok4.1.kind ha (U_ hb _) (by lia) (by lia) fun k hk=>?_)
      refine via3 (T:=?T2) (fun o2 i2=>Behind a b o2 i2 j/\1<=i2/\i2<=a.size/\m+1+i2+j<=a.size+b.size) ?key2 ?main2
      case main2 =>
       intro key
       refine bL_ (fun hk0=>?_) (fun hk0=>?_)
       ·skip
        have x1:Behind a b (o++(a.extract k i).reverse) k j:=Behind.extA (k:=k) q1 (by lia)
        refine G_ (fun hz=>wpS_pure (.inr ⟨_,_,rfl,x1.done,ok4⟩)) (fun hz=>?_)
        have pk:1<=k/\k<=a.size/\m+1+k+j<=a.size+b.size:=by lia
        clear hz hk0
        generalize o++(a.extract k i).reverse=o2 at x1⊢
        generalize i-k=ka
        generalize k=i2 at x1 pk⊢
        exact key o2 i2 ka ⟨x1,pk⟩
       ·with_reducible exact key o i (i-k) ⟨q1,q2.1,q2.2,q4⟩
      case key2 =>
       rintro o2 i2 ka ⟨r1,r2,hi2,hmm⟩
       clear q1 q2 q4 hk
       refine wpS_bind (t_ (by lia) ?_)
       have y1:=r1.pushB (by lia) q3.2
       refine G_ (fun hy=>wpS_pure (.inr ⟨_,_,rfl,y1.first,ok4⟩)) (fun hy=>?_)
       have hj2:2<=j-1/\j-1<=b.size/\m+1+i2+(j-1)<=a.size+b.size:=by lia
       generalize o2.push b[j-1]=o3 at y1⊢
       clear r1 hy hmm q3
       generalize j-1=j2 at y1 hj2⊢
       refine wpS_bind (t_ (by lia) ?_)
       refine wpS_bind (ae_ ok4.1.kind hb (U_ ha _) (by lia) (by lia) fun k1 hk1=>?_)
       refine via3 (T:=?T3) (fun o5 j5=>Behind a b o5 i2 j5/\2<=j5/\j5<=b.size/\m+1+i2+j5<=a.size+b.size) ?key3 ?main3
       case main3 =>
        intro key
        refine bL_ (fun hk2=>?_) (fun hk2=>?_)
        ·skip
         have z1:=Behind.extB (k:=k1) y1 (by lia)
         refine G_ (fun hy2=>wpS_pure (.inr ⟨_,_,rfl,z1.first,ok4⟩)) (fun hy2=>?_)
         refine G_ (fun hy3=>wpS_pure (.inr ⟨_,_,rfl,z1.done,ok4⟩)) (fun hy3=>?_)
         have pt:2<=k1/\k1<=b.size/\m+1+i2+k1<=a.size+b.size:=by lia
         clear hy2 hy3 hk2
         generalize o3++(b.extract k1 j2).reverse=o5 at z1⊢
         generalize j2-k1=kb
         generalize k1=j5 at z1 pt⊢
         exact key o5 j5 kb ⟨z1,pt⟩
        ·with_reducible exact key o3 j2 (j2-k1) ⟨y1,hj2⟩
       case key3 =>
        rintro o5 j5 kb ⟨t1,t2,t3,t4⟩
        refine wpS_bind (t_ (by lia) ?_)
        have u1:=t1.pushA r2 hi2
        refine G_ (fun hz=>wpS_pure (.inr ⟨_,_,rfl,u1.done,ok4⟩)) (fun hz=>?_)
        have on5:HiOn a b (m+1) (o5.push a[i2-1]) (i2-1) j5:=⟨u1,⟨by lia,by lia⟩,⟨t2,t3⟩,by lia⟩
        split
        ·exact wpS_pure (.inl ⟨_,_,_,_,_,_,rfl,on5,ok4⟩)
        ·exact wpS_pure ⟨_,_,_,_,_,_,rfl,on5,ok4⟩
   ·obtain⟨i,j,o,ac,bc⟩:=rest
    exact wpS_pure ⟨_,_,rfl,hp,ok2⟩
end
end Srt
namespace Srt
open PySem PyProof.Rows
def Cov:List (Nat×Nat×Nat)->Nat->Nat->Prop
 | [],s,e=>s=e
 | q::r,s,e=>q.1=s/\1<=q.2.1/\Cov r (s+q.2.1) e
theorem Cov.le:∀ {l:List (Nat×Nat×Nat)} {s e:Nat},Cov l s e->s<=e
 | [],_,_,h=>by unfold Cov at h;lia
 | q::r,s,e,h=>by
  obtain⟨h1,h2,h3⟩:=h
  have:=h3.le
  lia
theorem Cov.snoc:∀ {l:List (Nat×Nat×Nat)} {s e n g:Nat},Cov l s e->1<=n->Cov (l++[(e,n,g)]) s (e+n)
 | [],_,_,_,_,h,hn=>by unfold Cov at h;subst h;exact⟨rfl,hn,rfl⟩
 | q::r,s,e,n,g,h,hn=>⟨h.1,h.2.1,h.2.2.snoc hn⟩
theorem Cov.two:∀ {l:List (Nat×Nat×Nat)} {s e i:Nat},Cov l s e->i+1<l.length->∃a n g m g',l[i]?=some (a,n,g)/\l[i+1]?=some (a+n,m,g')/\1<=n/\1<=m/\a+n+m<=e/\
  Cov ((l.set i (a,n+m,g)).eraseIdx (i+1)) s e
 | [],_,_,_,_,h=>by simp at h
 | [q],_,_,i,_,h=>by simp at h
 | q::q'::r,s,e,0,h,_=>by
  obtain⟨h1,h2,h3,h4,h5⟩:=h
  have:=h5.le
  obtain⟨a,n,g⟩:=q
  obtain⟨b,m,g'⟩:=q'
  simp only at h1 h2 h3 h4 h5 this
  subst h1 h3
  refine⟨_,_,_,_,_,rfl,rfl,h2,h4,by lia,rfl,by simp only;lia,?_⟩
  simp only
  rw[<-Nat.add_assoc]
  exact h5
 | q::q'::r,s,e,i+1,h,hi=>by
  obtain⟨a,n,g,m,g',e1,e2,h1,h2,h3,h4⟩:=h.2.2.two (i:=i) (by simp at hi⊢;lia)
  exact⟨a,n,g,m,g',by simpa using e1,by simpa using e2,h1,h2,h3,by simpa using ⟨h.1,h.2.1,h4⟩⟩
theorem Cov.mod:∀ {l:List (Nat×Nat×Nat)} {s e i g:Nat},Cov l s e->Cov (l.modify i fun q=>(q.1,q.2.1,g)) s e
 | [],_,_,i,_,h=>by cases i <;> simpa using h
 | q::r,s,e,0,g,h=>by simpa [Cov] using h
 | q::r,s,e,i+1,g,h=>by
  have:=h.2.2.mod (i:=i) (g:=g)
  simpa using ⟨h.1,h.2.1,this⟩
theorem wrote:∀(l:List Keyed) (x:Array Keyed) (d k:Nat),d+k+l.length<=x.size->
  ((l.zipIdx k).foldl (fun(y:Array Keyed) (q:Keyed×Nat)=>y.setIfInBounds (d+q.2) q.1) x).toList=x.toList.take (d+k)++l++x.toList.drop (d+k+l.length)
 | [],x,d,k,h=>by simp
 | q::l,x,d,k,h=>by
  simp only[List.length_cons] at h
  rw[List.zipIdx_cons,List.foldl_cons]
  have z:x.size=(x.setIfInBounds (d+k) q).size:=by simp
  have ih:=wrote l (x.setIfInBounds (d+k) q) d (k+1) (by rw[<-z];lia)
  rw[ih,Array.toList_setIfInBounds,List.drop_set_of_lt (by lia),show d+(k+1)=d+k+1 by lia,List.take_add_one,List.getElem?_set_self (by simp;lia)]
  rw[List.take_set,List.set_eq_of_length_le (by rw[List.length_take];lia)]
  simp only[List.length_cons,Option.toList_some,List.append_assoc,List.cons_append,List.nil_append]
  congr 4
  lia
theorem jg_{x o:Array Keyed}{i k:Nat}(hk:i+k<=x.size)(h:o.toList.Perm ((x.toList.drop i).take k)) :
  (o.toList.zipIdx.foldl (fun(y:Array Keyed) (q:Keyed×Nat)=>y.setIfInBounds (i+q.2) q.1) x).Perm x:=by
 have hl:o.toList.length=k:=by rw[h.length_eq];simp;lia
 rw[Array.perm_iff_toList_perm,wrote _ _ _ _ (by lia)]
 have e:x.toList=x.toList.take i++((x.toList.drop i).take k++x.toList.drop (i+k)):=by rw[<-List.drop_drop,List.take_append_drop,List.take_append_drop]
 conv=>rhs;rw[e]
 rw[Nat.add_zero,hl,List.append_assoc]
 exact(h.append_right _).append_left _
section
variable{prog:Program}{w:World}{A:Around}{E:Value->Shared->Prop}{s:Shared}{st:SortSt}{a₀ x₀:Array Keyed}{p:Array (Nat×Nat×Nat)}
theorem oD_{σ:Type}{M:Model}{x:σ}{Q:PUnit->σ->Prop}{st:σ}(h:Q ⟨⟩ x):wpS M A E s (set x:StateT σ Sem PUnit) Q st:=by
 unfold wpS
 rw[StateT.run_set]
 exact wpAny_pure ⟨rfl,h⟩
theorem iU_{x:Array Keyed}(h:IntKeys x)(i k:Nat):IntKeys (x.extract i (i+k)):=fun q hq=>by
 rw[be_] at hq
 exact h q (List.mem_of_mem_drop (List.mem_of_mem_take hq))
theorem bK_{i e:Nat}{Q:Bool->SortSt->Prop}(h0:IntKeys a₀)(ok:Ok a₀ p st)(hc:Cov p.toList 0 e)(he:e<=a₀.size)(hi:i+1<p.size)
  (h:∀p' st',Ok a₀ p' st'->Cov p'.toList 0 e->p'.size+1=p.size->Q true st'):wpS (model prog w) A E s (mergeAt' i) Q st:=by
 obtain⟨sa,na,g,nb,g',e1,e2,h1,h2,h3,h4⟩:=hc.two (i:=i) (by simpa using hi)
 have hsz:=ok.size
 have hks:=ok.keys h0
 have p1:(pendingOf st)[i]?=some (sa,na,g):=by rw[ok.pend];simpa using e1
 have p2:(pendingOf st)[i+1]?=some (sa+na,nb,g'):=by rw[ok.pend];simpa using e2
 unfold mergeAt'
 show wpS _ _ _ _ (_>>=_) _ _
 refine wpS_bind (wpS_get ?_)
 rw[p1,p2]
 dsimp only
 refine wpS_bind (oD_ ?_)
 have ok1:Ok a₀ (((pendingOf st).setIfInBounds i (sa,na+nb,g)).eraseIdxIfInBounds (i+1)) (SortSt.mk' (kindOf st) (arrOf st) (((pendingOf st).setIfInBounds i (sa,na+nb,g)).eraseIdxIfInBounds (i+1)) (gallopOf st) (failedOf st)) :=
  ⟨ok.perm,ok.kind,ok.failed,rfl⟩
 have z1:(((pendingOf st).setIfInBounds i (sa,na+nb,g)).eraseIdxIfInBounds (i+1)).toList=(p.toList.set i (sa,na+nb,g)).eraseIdx (i+1):=by
  rw[ok.pend,Array.eraseIdxIfInBounds,dif_pos (by simpa using hi)]
  simp
 have c1:Cov (((pendingOf st).setIfInBounds i (sa,na+nb,g)).eraseIdxIfInBounds (i+1)).toList 0 e:=by rw[z1];exact h4
 have n1:(((pendingOf st).setIfInBounds i (sa,na+nb,g)).eraseIdxIfInBounds (i+1)).size+1=p.size:=by
  have:=congrArg List.length z1
  rw[List.length_eraseIdx_of_lt (by simpa using hi),List.length_set] at this
  simp only[Array.length_toList] at this
  lia
 refine wpS_bind (t_ (by show _<(arrOf st).size;lia) ?_)
 refine wpS_bind (ae_ ok1.kind hks (U_ hks _) (by show _<=(arrOf st).size;lia) (by lia) fun k hk=>?_)
 dsimp only
 by_cases hz:na-k=0
 ·rw[if_pos (by simpa using hz)]
  exact wpS_pure (h _ _ ok1 c1 n1)
 rw[if_neg (by simpa using hz)]
 refine wpS_bind (t_ (by show _<(arrOf st).size;lia) ?_)
 refine wpS_bind (ae_ ok1.kind hks (U_ hks _) (by show _<=(arrOf st).size;lia) (by lia) fun m hm=>?_)
 dsimp only
 by_cases hz2:m=0
 ·rw[if_pos (by simpa using hz2)]
  exact wpS_pure (h _ _ ok1 c1 n1)
 rw[if_neg (by simpa using hz2)]
 have ex:(arrOf st).extract (sa+k) (sa+na)=(arrOf st).extract (sa+k) (sa+k+(na-k)):=by congr 1;lia
 have kx:IntKeys ((arrOf st).extract (sa+k) (sa+na)):=by rw[ex];exact iU_ hks _ _
 have ky:IntKeys ((arrOf st).extract (sa+na) (sa+na+m)):=iU_ hks _ _
 have xy:((arrOf st).extract (sa+k) (sa+na)).toList++((arrOf st).extract (sa+na) (sa+na+m)).toList=((arrOf st).toList.drop (sa+k)).take (na-k+m):=by
  rw[ex,be_,be_,List.take_add,List.drop_drop]
  congr 3
  lia
 have fin:∀(o:Array Keyed) (st':SortSt),Still a₀ (((pendingOf st).setIfInBounds i (sa,na+nb,g)).eraseIdxIfInBounds (i+1)) (arrOf st) st'->o.toList.Perm (((arrOf st).extract (sa+k) (sa+na)).toList++((arrOf st).extract (sa+na) (sa+na+m)).toList)->
   Ok a₀ (((pendingOf st).setIfInBounds i (sa,na+nb,g)).eraseIdxIfInBounds (i+1)) (setArr st' (o.toList.zipIdx.foldl (fun(y:Array Keyed) (q:Keyed×Nat)=>y.setIfInBounds (sa+k+q.2) q.1) (arrOf st'))):=fun o st' ok2 hp=>by
  refine ok2.1.set ?_
  rw[xy] at hp
  rw[ok2.2]
  exact jg_ (by lia) hp
 have sx:1<=((arrOf st).extract (sa+k) (sa+na)).size:=by rw[Array.size_extract];lia
 have sy:1<=((arrOf st).extract (sa+na) (sa+na+m)).size:=by rw[Array.size_extract];lia
 by_cases hle:na-k<=m
 ·rw[if_pos hle]
  refine wpS_bind (gG_ ⟨ok1,rfl⟩ kx ky sx sy fun o st' ok2 hp=>?_)
  refine wpS_bind (wpS_modify (wpS_bind (wpS_get (wpS_pure ?_))))
  have ok3:=fin o st' ok2 hp
  have e3:=ok3.failed
  have:=h _ _ ok3 c1 n1
  rw[show(failedOf st').isNone=true by rw[ok2.1.failed];rfl]
  exact this
 ·rw[if_neg hle]
  refine wpS_bind (gH_ ⟨ok1,rfl⟩ kx ky sx sy fun o st' ok2 hp=>?_)
  refine wpS_bind (wpS_modify (wpS_bind (wpS_get (wpS_pure ?_))))
  have ok3:=fin o st' ok2 hp
  have:=h _ _ ok3 c1 n1
  rw[show(failedOf st').isNone=true by rw[ok2.1.failed];rfl]
  exact this
end
end Srt
namespace Srt
open PySem PyProof.Rows
section
variable{prog:Program}{w:World}{A:Around}{E:Value->Shared->Prop}{s:Shared}{st:SortSt}{a₀ x₀:Array Keyed}{p:Array (Nat×Nat×Nat)}
theorem Ok.setP(h:Ok a₀ p st)(p':Array (Nat×Nat×Nat)):Ok a₀ p' (setPending st p'):=⟨h.perm,h.kind,h.failed,rfl⟩
theorem ms_{Q:Unit->SortSt->Prop}(h0:IntKeys a₀)(ok:Ok a₀ #[] st)(h:∀st',(arrOf st').Perm a₀->failedOf st'=none->Q () st'):wpS (model prog w) A E s sortRuns' Q st:=by
 rw[sortRuns'_eq]
 refine wpS_bind (wpS_get ?_)
 dsimp only
 simp only[ok.size]
 refine wpS_bind (wpS_mono (wpS_forRange (I:=fun _ c st'=>∃lo p,c=(none,lo)/\Ok a₀ p st'/\Cov p.toList 0 lo/\lo<=a₀.size) (Q:=fun c st'=>∃lo p,c=(none,lo)/\Ok a₀ p st'/\Cov p.toList 0 lo/\lo<=a₀.size) ?step (fun _ _ z=>z) ⟨0,#[],rfl,ok,rfl,by omega⟩) ?post)
 case step =>
  rintro x c st' _ hx ⟨lo,p,rfl,ok',hc,hlo⟩
  dsimp only
  by_cases hz:lo>=a₀.size
  ·rw[if_pos hz]
   exact wpS_pure ⟨lo,p,rfl,ok',hc,hlo⟩
  rw[if_neg hz]
  refine wpS_bind (jY_ h0 (by omega) (by omega) ok' fun m stX ok2 hm1 hm2=>?_)
  dsimp only
  by_cases hmr:m<minRun' a₀.size a₀.size 0
  ·rw[if_pos hmr]
   refine wpS_bind (wpS_lift (wpAny_rule ⟨rfl,?_⟩))
   refine wpS_bind (oE_ h0 (by omega) ok2 fun stX ok3=>?_)
   rw[if_neg (by decide)]
   refine wpS_bind (wpS_get ?_)
   cases hbk:(pendingOf stX).back? with
   | none =>
    dsimp only
    refine wpS_bind (wpS_modify (wpS_pure ⟨_,_,rfl,Ok.setP ok3 _,?_,by omega⟩))
    show Cov ((pendingOf stX).push _).toList 0 _
    rw[Array.toList_push,Ok.pend ok3]
    exact hc.snoc (by omega)
   | some q =>
    obtain⟨s1,n1,g1⟩:=q
    dsimp only
    refine wpS_bind (wpS_mono (wpS_forRange (I:=fun _ c st3=>c=(none,())/\∃p,Ok a₀ p st3/\Cov p.toList 0 lo) (Q:=fun c st3=>c=(none,())/\∃p,Ok a₀ p st3/\Cov p.toList 0 lo) ?_ (fun _ _ z=>z) ⟨rfl,_,ok3,hc⟩) ?_)
    ·rintro y c st3 _ _ ⟨rfl,p3,ok3,hc3⟩
     refine wpS_bind (wpS_get ?_)
     rw[ok3.pend]
     by_cases h2:p3.size>1
     ·rw[if_pos h2,getElem?_pos p3 (p3.size-2) (by omega)]
      generalize p3[p3.size-2]=q
      obtain⟨u,v,old⟩:=q
      dsimp only
      split
      ·exact wpS_pure ⟨rfl,p3,ok3,hc3⟩
      ·exact wpS_bind (bK_ h0 ok3 hc3 hlo (by omega) fun p4 st4 ok4 hc4 _=>wpS_pure ⟨rfl,p4,ok4,hc4⟩)
     ·rw[if_neg h2]
      exact wpS_pure ⟨rfl,p3,ok3,hc3⟩
    ·rintro c st3 ⟨rfl,p3,ok3,hc3⟩
     refine wpS_bind (wpS_modify (wpS_bind (wpS_modify (wpS_pure ⟨_,_,rfl,⟨ok3.perm,ok3.kind,ok3.failed,rfl⟩,?_,by omega⟩))))
     show Cov (((pendingOf st3).modify _ _).push _).toList 0 _
     rw[Array.toList_push,Array.toList_modify,ok3.pend]
     exact(Cov.mod hc3).snoc (by omega)
  ·rw[if_neg hmr]
   refine wpS_bind (wpS_get ?_)
   cases hbk:(pendingOf stX).back? with
   | none =>
    dsimp only
    refine wpS_bind (wpS_modify (wpS_pure ⟨_,_,rfl,Ok.setP ok2 _,?_,by omega⟩))
    show Cov ((pendingOf stX).push _).toList 0 _
    rw[Array.toList_push,Ok.pend ok2]
    exact hc.snoc (by omega)
   | some q =>
    obtain⟨s1,n1,g1⟩:=q
    dsimp only
    refine wpS_bind (wpS_mono (wpS_forRange (I:=fun _ c st3=>c=(none,())/\∃p,Ok a₀ p st3/\Cov p.toList 0 lo) (Q:=fun c st3=>c=(none,())/\∃p,Ok a₀ p st3/\Cov p.toList 0 lo) ?_ (fun _ _ z=>z) ⟨rfl,_,ok2,hc⟩) ?_)
    ·rintro y c st3 _ _ ⟨rfl,p3,ok3,hc3⟩
     refine wpS_bind (wpS_get ?_)
     rw[ok3.pend]
     by_cases h2:p3.size>1
     ·rw[if_pos h2,getElem?_pos p3 (p3.size-2) (by omega)]
      generalize p3[p3.size-2]=q
      obtain⟨u,v,old⟩:=q
      dsimp only
      split
      ·exact wpS_pure ⟨rfl,p3,ok3,hc3⟩
      ·exact wpS_bind (bK_ h0 ok3 hc3 hlo (by omega) fun p4 st4 ok4 hc4 _=>wpS_pure ⟨rfl,p4,ok4,hc4⟩)
     ·rw[if_neg h2]
      exact wpS_pure ⟨rfl,p3,ok3,hc3⟩
    ·rintro c st3 ⟨rfl,p3,ok3,hc3⟩
     refine wpS_bind (wpS_modify (wpS_bind (wpS_modify (wpS_pure ⟨_,_,rfl,⟨ok3.perm,ok3.kind,ok3.failed,rfl⟩,?_,by omega⟩))))
     show Cov (((pendingOf st3).modify _ _).push _).toList 0 _
     rw[Array.toList_push,Array.toList_modify,ok3.pend]
     exact(Cov.mod hc3).snoc (by omega)
 case post =>
  rintro c st' ⟨lo,p,rfl,ok',hc,hlo⟩
  dsimp only
  refine wpS_bind (wpS_mono (wpS_forRange (I:=fun _ c st3=>c=(none,())/\∃p,Ok a₀ p st3/\Cov p.toList 0 lo) (Q:=fun c st3=>c=(none,())/\∃p,Ok a₀ p st3/\Cov p.toList 0 lo) ?_ (fun _ _ z=>z) ⟨rfl,_,ok',hc⟩) ?_)
  ·rintro y c st3 _ _ ⟨rfl,p3,ok3,hc3⟩
   refine wpS_bind (wpS_get ?_)
   rw[ok3.pend]
   by_cases h2:p3.size<=1
   ·rw[if_pos h2]
    exact wpS_pure ⟨rfl,p3,ok3,hc3⟩
   ·rw[if_neg h2]
    have hi:∀(c:Prop) [Decidable c],(if c then p3.size-2-1 else p3.size-2)+1<p3.size:=fun c _=>by
     by_cases hc:c
     ·rw[if_pos hc];omega
     ·rw[if_neg hc];omega
    exact wpS_bind (bK_ h0 ok3 hc3 hlo (hi _) fun p4 st4 ok4 hc4 _=>wpS_pure ⟨rfl,p4,ok4,hc4⟩)
  ·rintro c st3 ⟨rfl,p3,ok3,hc3⟩
   exact wpS_pure (h _ ok3.perm ok3.failed)
end
end Srt
namespace Srt
open PySem PyProof.Rows
theorem mM_{vs:List Value}{ns:List Int}(hI:IntsAre vs ns){xs:Array Keyed}(hp:xs.Perm (pairsOf vs)):∃ns',IntsAre (xs.map (·.2)).toList ns'/\ns'.Perm ns:=by
 have hq:(xs.map (·.2)).toList.Perm vs:=by
  have h1:=(Array.perm_iff_toList_perm.mp hp).map (·.2)
  have h2:(pairsOf vs).toList.map (·.2)=vs:=by rw[pairsOf_toList];exact List.map_snd_zip (Nat.le_refl _)
  rw[h2] at h1
  rwa [Array.toList_map]
 refine⟨_,intsAre_map _ fun v hv=>hI.all v (hq.mem_iff.mp hv),?_⟩
 rw[<-hI.nums]
 exact hq.map numOf
section
variable{prog:Program}{w:World}{A:Around}{E:Value->Shared->Prop}{s:Shared}
theorem fj_{l:Addr}{vs:List Value}{ns:List Int}{n:Nat}{P:Fin->Shared->Prop}(at_:s.heap.get? l=some (seqObj "list" vs.toArray n))(hI:IntsAre vs ns)(hz:vs.length<=sizeLine)
  (h:∀(out:Array Value) (ns':List Int),IntsAre out.toList ns'->ns'.Perm ns->P (.done (.ret .none)) {s with heap:=sortedHeap s.heap l vs out}) :
  wpAny (model prog w) A (Builtin.«list.sort» ⟨[.ref l],[]⟩) P E s:=by
 have hlt:l<s.heap.objs.size:=Heap.lt_size at_
 have hsz:vs.toArray.size=vs.length:=by simp
 rw[list_sort_plain]
 obtain⟨e1,at1⟩:∃e1,(s.heap.update l (Obj.mapSeq fun _=>#[])).get? l=some (seqObj "list" #[] e1):=⟨_,get?_update_seq at_ (fun _=>#[])⟩
 refine wpAny_bind (listItems_at at_ rfl (wpAny_bind (listUpdate_at at_ rfl (wpAny_bind (seqEpoch_at at1 rfl (wpAny_bind (wpAny_newTuple (wpAny_bind (wpAny_newList (wpAny_holding ?_))))))) (by omega) (by simp))))
 have at2:(((s.heap.update l (Obj.mapSeq fun _=>#[])).push (seqObj "tuple" vs.toArray 0)).push (seqObj "list" #[] 0)).get? l=some (seqObj "list" #[] e1):=by
  refine Heap.get?_push_of_some _ (Heap.get?_push_of_some _ at1)
 show wpAny (model prog w) A _ P E {s with heap:=((s.heap.update l (Obj.mapSeq fun _=>#[])).push (seqObj "tuple" vs.toArray 0)).push (seqObj "list" #[] 0)}
 dsimp only
 have fin:∀st':SortSt,(arrOf st').Perm (pairsOf vs)->P (.done (.ret .none)) {s with heap:=sortedHeap s.heap l vs ((arrOf st').map (·.2))}:=fun st' hp=>by
  obtain⟨ns',h1,h2⟩:=mM_ hI hp
  exact h _ ns' h1 h2
 have big:∀st':SortSt,(arrOf st').Perm (pairsOf vs)->((arrOf st').map (·.2)).size<=sizeLine+1:=fun st' hp=>by
  rw[Array.size_map,hp.size_eq,pairsOf_size];omega
 by_cases h2:vs.toArray.size<2
 ·rw[if_pos h2,if_pos h2]
  refine wpAny_bind (wpAny_pure (show wpAny _ _ _ _ _ _ from ?_))
  rw[StateT.run_pure]
  refine wpAny_bind (wpAny_pure (wpAny_bind (seqEpoch_at at2 rfl (wpAny_bind (listUpdate_at at2 rfl ?_ (by simp) (big (SortSt.mk' general' (vs.toArray.zip vs.toArray) #[] 7 none) (Array.Perm.refl _)))))))
  simp only[bne_self_eq_false,Bool.false_eq_true,if_false]
  exact wpAny_pure (fin (SortSt.mk' general' (vs.toArray.zip vs.toArray) #[] 7 none) (Array.Perm.refl _))
 ·rw[if_neg h2,if_neg h2]
  obtain⟨v1,v2,r,rfl⟩:∃v1 v2 r,vs=v1::v2::r:=by
   rcases vs with _ | ⟨v1,_ | ⟨v2,r⟩⟩
   ·simp at h2
   ·simp at h2
   ·exact⟨v1,v2,r,rfl⟩
  rw[keyKind_ints hI]
  refine wpAny_bind (wpAny_pure (wpAny_bind (wpAny_mono (ms_ (a₀:=pairsOf (v1::v2::r)) (st:=SortSt.mk' oneType' ((v1::v2::r).toArray.zip (v1::v2::r).toArray) #[] 7 none)
   (Q:=fun _ st'=>(arrOf st').Perm (pairsOf (v1::v2::r))/\failedOf st'=none) hI.intKeys ⟨Array.Perm.refl _,rfl,rfl,rfl⟩ fun st' a1 a2=>⟨a1,a2⟩) ?_ fun _ _ e=>e)))
  rintro⟨⟨⟩,st'⟩ s' ⟨rfl,hp,hf⟩
  dsimp only
  refine wpAny_bind (seqEpoch_at at2 rfl (wpAny_bind (listUpdate_at at2 rfl ?_ (by simp) (big st' hp))))
  rw[hf]
  simp only[bne_self_eq_false,Bool.false_eq_true,if_false]
  exact wpAny_pure (fin st' hp)
end
end Srt
namespace Srt
open PySem PyProof.Rows
section
variable{prog:Program}{w:World}{A:Around}{E:Value->Shared->Prop}{s:Shared}{T:String}{r d:Addr}{n:Nat}{P:Nat->Value->Prop}{OK:Heap->Prop}
theorem jN_{R:Result->Shared->Prop}(K:PySem.W.KdlSrc prog w T r d n P OK)(hh:A.handled=none)(hok:OK s.heap)(hn:n<=sizeLine)
  (h:∀h' tk acc c,(∀b o,s.heap.get? b=some o->h'.get? b=some o)->h'.get? s.heap.objs.size=some {cls:=.type "list",dict:=none,data:=.seq acc c,slots:=#[]}->ItemsOf P acc n->R (.ok (.ret (.ref s.heap.objs.size))) {s with heap:=h',toks:=tk}) :
  codeAny (model prog w) A (.builtin "proto.collect" ⟨[.ref r],[]⟩) R s:=by
 have lt:=K.there _ hok
 refine codeAny_builtin PySem.F.entry_proto_collect ?_
 rw[Around.under_plainId PySem.F.plain_proto_collect _]
 show wpAny _ A.in1 (newList []>>=fun l=>again (.builtin "list.__iadd__" ⟨[l,.ref r],[]⟩)) _ _ s
 refine wpAny_bind (wpAny_newObj_type (wpAny_pure ⟨plainId_quiet PySem.F.plain_list_iadd _,codeAny_builtin PySem.F.entry_list_iadd ?_⟩))
 rw[Around.under_plainId PySem.F.plain_list_iadd _]
 show wpAny _ A.in1 (Builtin.List.listExtendWith (.ref s.heap.objs.size) (.ref r) (.ref s.heap.objs.size)) _ _ _
 exact PySem.W.kdl_extend (R:=R) (s:={s with heap:=s.heap.push {cls:=.type "list",data:=.seq ([]:List Value).toArray}}) K hh (K.keep _ _ hok fun b _ o e=>Heap.get?_push_of_some _ e) s.heap.objs.size (Nat.ne_of_gt lt.1) (Nat.ne_of_gt lt.2) _ 0 (Heap.get?_push_size _ rfl)
  (fun h' tk acc c k hS hacc=>h h' tk acc c (fun b o e=>k b o (Nat.ne_of_lt (Heap.lt_size e)) (Heap.get?_push_of_some _ e)) hS hacc) hn
theorem hO_{Q:List Value->Shared->Prop}(K:PySem.W.KdlSrc prog w T r d n P OK)(hh:A.handled=none)(hok:OK s.heap)(hn:n<=sizeLine)
  (h:∀h' tk acc,(∀b o,s.heap.get? b=some o->h'.get? b=some o)->s.heap.objs.size<h'.objs.size->ItemsOf P acc n->Q acc.toList {s with heap:=h',toks:=tk}):wpAny (model prog w) A (collect (.ref r)) Q E s:=by
 unfold collect
 refine wpAny_bind (wpAny_runValue (jN_ K hh hok hn fun h' tk acc c k hS hacc=>?_))
 show wpAny _ A (load s.heap.objs.size>>=_) _ _ _
 exact wpAny_bind (wpAny_load hS (wpAny_pure (h h' tk acc k (Heap.lt_size hS) hacc)))
theorem gU_{h:Heap}{l:Addr}{vs:List Value}{out:Array Value}{c:Nat}(e:h.get? l=some (seqObj "list" vs.toArray c)) :
  (∃c',(sortedHeap h l vs out).get? l=some (seqObj "list" out c'))/\∀b o,b≠l->h.get? b=some o->(sortedHeap h l vs out).get? b=some o:=by
 unfold sortedHeap
 constructor
 ·exact⟨_,get?_update_seq (Heap.get?_push_of_some _ (Heap.get?_push_of_some _ (get?_update_seq e _))) _⟩
 ·intro b o hb q
  refine(Heap.get?_update_other _ _ (Ne.symm hb)).trans (Heap.get?_push_of_some _ (Heap.get?_push_of_some _ ?_))
  exact(Heap.get?_update_other _ _ (Ne.symm hb)).trans q
theorem jj_{ns:List Int}{Q:Value->Shared->Prop}(K:PySem.W.KdlSrc prog w T r d n P OK)(hh:A.handled=none)(hok:OK s.heap)(hn:n<=sizeLine)(hi:∀acc,ItemsOf P acc n->IntsAre acc.toList ns)
  (h:∀h' tk D c (out:Array Value) (ns':List Int),(∀b o,s.heap.get? b=some o->h'.get? b=some o)->s.heap.objs.size<=D->h'.get? D=some (seqObj "list" out c)->IntsAre out.toList ns'->ns'.Perm ns->Q (.ref D) {s with heap:=h',toks:=tk}) :
  wpAny (model prog w) A (call (.builtin "sorted") [.ref r]) Q E s:=by
 refine Calls.call_function_entry kind_sorted plain_sorted entry_sorted (args_sorted1 _) ?_
 unfold Builtin.«sorted»
 refine wpAny_bind (m:=checkCount "sorted" 1 1 _) (wpAny_pure (wpAny_bind (hO_ K (by exact hh) hok hn fun h1 tk acc k1 z1 hacc=>?_)))
 have hI:=hi acc hacc
 have hz:acc.toList.length<=sizeLine:=by rw[Array.length_toList,hacc.1];exact hn
 refine wpAny_bind (wpAny_newList ?_ (hsz:=hz))
 have at1:(h1.push (seqObj "list" acc.toList.toArray 0)).get? h1.objs.size=some (seqObj "list" acc.toList.toArray 0):=Heap.get?_push_size _ rfl
 refine wpAny_bind (wpAny_holding (wpAny_call_entry slot_list_sort ⟨_,at1,rfl⟩ entry_list_sort (fj_ at1 hI hz fun out ns' a1 a2=>⟨_,rfl,?_⟩) (args_list_sort _)))
 obtain⟨⟨c',g1⟩,g2⟩:=gU_ (out:=out) at1
 refine wpAny_pure ⟨_,rfl,h _ _ _ c' out ns' (fun b o e=>?_) ?_ g1 a1 a2⟩
 ·have e1:=k1 b o e
  exact g2 b o (Nat.ne_of_lt (Heap.lt_size e1)) (Heap.get?_push_of_some _ e1)
 ·exact Nat.le_of_lt z1
end
end Srt
namespace L2
open PySem PySem.Spec PyProof.Rows
theorem lw_{P:Program}{w:World}{vs:List (Key×Value)}{ns:List Int}(hk:vs.map (·.1)=ns.map Sum.inl){acc:Array Value}(h:ItemsOf (fun i v=>∃k x,vs[i]?=some (k,x)/\(u_ P w).is k v=true) acc vs.length):IntsAre acc.toList ns:=by
 have hl:vs.length=ns.length:=by simpa using congrArg List.length hk
 have at_:∀(i:Nat) (v:Value),acc.toList[i]?=some v->∃n t,ns[i]?=some n/\v=Value.int n t:=fun i v e=>by
  obtain⟨k,x,h1,h2⟩:=h.2 i v (by rw[<-Array.getElem?_toList];exact e)
  have h3:(vs.map (·.1))[i]?=some k:=by rw[List.getElem?_map,h1];rfl
  rw[hk,List.getElem?_map] at h3
  cases q:ns[i]? with
  | none=>rw[q] at h3;cases h3
  | some m =>
   rw[q] at h3
   have h4:Sum.inl m=k:=Option.some.inj h3
   subst h4
   have h5:keyIs (Sum.inl m) v=true:=h2
   rcases x_ h5 with⟨i',t,e1,e2⟩ | ⟨y,t,e1,_⟩
   ·cases e1;exact⟨m,t,rfl,e2⟩
   ·cases e1
 have all:∀v:Value,v∈acc.toList->∃n t,v=Value.int n t:=fun v hv=>by
  obtain⟨i,hi⟩:=List.getElem?_of_mem hv
  obtain⟨n,t,_,e⟩:=at_ i v hi
  exact⟨n,t,e⟩
 have hm:=intsAre_map _ all
 have e:acc.toList.map numOf=ns:=by
  apply List.ext_getElem?
  intro i
  rw[List.getElem?_map]
  cases q:acc.toList[i]? with
  | none =>
   have:acc.size<=i:=by simpa using q
   have hs:=h.1
   rw[List.getElem?_eq_none (by lia)]
   rfl
  | some v =>
   obtain⟨n,t,e1,e2⟩:=at_ i v q
   rw[e1,e2]
   rfl
 rw[e] at hm
 exact hm
section
variable{X:Cx}
theorem gv_(hc:X.calm=true):CallR X (.builtin "sorted") (fun xs H Q=>∃(a:Addr) (kvs:List (Key×V)) (ns:List Int),xs=[.ref a]/\Rd H a (.dK kvs)/\kvs.map (·.1)=ns.map Sum.inl/\
  ∀(l:Addr) (ns':List Int),H l=none->ns'.Perm ns->Q (.ref l) (upd H l (.lst (ns'.map V.int)))):=by
 intro pins s σ H xs us Q I r h
 obtain⟨a,kvs,ns,rfl,e,hk,q⟩:=h
 obtain⟨u,rfl,ru⟩:=vals1 r
 cases ru
 obtain⟨z,hd,vs,rel,o,es,ep,ho,dd⟩:=gt_ I.hok e
 have hkv:vs.map (·.1)=ns.map Sum.inl:=by rw[<-rel.keys];exact hk
 have hl:vs.length=ns.length:=by simpa using congrArg List.length hkv
 refine Srt.jj_ (ns:=ns) (PySem.W.kdl_dict (ep:=ep) (kvs:=vs) (knd:=u_ X.prog X.w) hd) (I.ok.hd hc) ⟨o,es,ho,dd⟩ (by rw[<-rel.length];exact z) (fun acc hacc=>lw_ hkv hacc) fun h' tk D c out ns' k hD hg hI hp=>?_
 have hz:(ns'.map V.int).length<=sizeLine:=by rw[List.length_map,hp.length_eq,<-hl,<-rel.length];exact z
 exact⟨.ref D,_,I.laid (a:=D) (o:=.lst (ns'.map V.int)) (t':=tk) k hD ⟨hz,out.toList,c,fu_ hI,by simpa using hg⟩,rfl,q D ns' (I.hok.fresh hD) hp⟩
end
end L2
namespace PySem
open Sem (wp)
theorem gk_:typeLookup (.type "list") "keys"=pure none:=by rw[typeLookup_type,builtinLookup_eq_fast];kernel_rfl
theorem hy_{prog:Program}{w:World}{A:Around}{E:Value->Shared->Prop}{s:Shared}{a:Addr}{o:Obj}{xs:Array Value}{k:Nat}{name:Str}{Q:Option Value->Shared->Prop}
  (hx:s.heap.get? a=some o) (hc:o.cls=.type "list") (hdat:o.data=.seq xs k) (hd:o.dict=none) (hmiss:typeLookup (.type "list") name=pure none) (hname:(["__module__","__name__","__qualname__","__doc__","__annotations__"]:List Str).contains name=false) (hA:A.handled=none)
  (h:∀h' tk,(∀b ob,s.heap.get? b=some ob->h'.get? b=some ob)->Q none {s with heap:=h',toks:=tk}) (hsz:name.length+100<=sizeLine:=by size_fits) :
  wpAny (model prog w) A (getAttr? (.ref a) name) Q E s:=by
 obtain⟨c,dct,dat,sl⟩:=o
 simp only at hc hdat hd
 subst hc hdat hd
 obtain⟨hp,g,d,tk,os⟩:=s
 have hT:∀tk',(⟨hp,g,d,tk',os⟩:Shared).TypeIs (.ref a) "list":=fun _=>⟨_,hx,rfl⟩
 have f1:=sub_AttributeError
 have f3:=F.slot_list_getattribute.lookup
 have f4:=F.slot_list_getattribute.bind (.ref a)
 have f5:=am_list_getattr_none
 unfold getAttr? getAttrBy? getAttrBy
 repeat (any_goals (first | assumption | exact hT _ | ((with_reducible show wpAny _ _ (call (Value.builtin "list.__getattribute__") _ _) _ _ _);refine call_meets F.slot_list_getattribute (hT _) am_entry_list_getattribute (F.args_list_getattribute_2 _ _) (meets_getattribute_miss_list a xs k sl name _ hmiss hname hsz) ⟨hx,hA,fun h' tk' e hx'=>?_⟩) | wp_step))
 obtain⟨t',u',he⟩:=hx'.there
 show wpAny _ _ (getattributeRaised _ _ _ _ _ _ _) _ _ _
 unfold getattributeRaised
 repeat (any_goals (first | assumption | wp_step))
 exact h _ _ hx'.keeps
end PySem
namespace PySem
open Sem (wp)
namespace F
theorem entry_dict_update_loop:entryFor table "dict.update.loop"=some Builtin.«dict.update.loop»:=entryFor_of_tree (by kernel_rfl)
theorem plain_dict_update_loop:plainId "dict.update.loop"=true:=by decide +kernel
end F
section
variable{prog:Program}{w:World}{A:Around}{R:Result->Shared->Prop}{I:Addr}{fp wr:List Addr}{G:Array GenState->Array GenState->Prop}{n:Nat}{P:Nat->Value->Prop}{St:Nat->Shared->Prop}
variable{K:Type}[DecidableEq K]{knd:KeyKind prog w K}
theorem jD_(rs:List (K×Value)):(merged [] rs).length<=rs.length:=by
 have gen:∀(rs kvs:List (K×Value)),(merged kvs rs).length<=kvs.length+rs.length:=by
  intro rs
  induction rs with
  | nil=>intro kvs;simp[merged]
  | cons p r ih =>
   intro kvs
   have h:=ih (stored kvs p.1 p.2)
   have h2:(stored kvs p.1 p.2).length<=kvs.length+1:=by
    unfold stored
    split <;> simp
   show(merged (stored kvs p.1 p.2) r).length<=_
   simp only[List.length_cons]
   lia
 simpa using gen rs []
theorem cr_(W:WalksS prog w A.in1 I fp wr G n P St)(S:Addr)(hSf:S∉fp)(res:Value)(rs:List (K×Value))(hn:rs.length=n)(hz:n<=sizeLine)(s0:Shared)
  (hval:∀i v,P i v->∃k x,rs[i]?=some (k,x)/\∀h:Heap,(∀b o,b∉S::wr->s0.heap.get? b=some o->h.get? b=some o)->∃t o c key,v=.ref t/\h.get? t=some o/\o.cls=.type "tuple"/\o.data=.seq #[key,x] c/\knd.is k key=true) :
  ∀(k i:Nat) (tk:Tok) (s:Shared),n-i=k->i<=n->St i s->(∀b o,b∉S::wr->s0.heap.get? b=some o->s.heap.get? b=some o)->
   s.heap.DictOf knd S (merged [] (rs.take i))->
   (∀s',Moved (S::wr) G s s'->s'.heap.DictOf knd S (merged [] rs)->R (.ok (.ret res)) s')->
   codeAny (model prog w) A (.builtin "dict.update.loop" ⟨[.ref S,.ref I,.int (i:Int) tk,res],[]⟩) R s:=by
 have hSw:S∉wr:=fun h=>hSf (W.sub _ h)
 have hsub:∀b∈wr,b∈S::wr:=fun b hb=>List.mem_cons_of_mem _ hb
 intro k
 induction k with
 | zero =>
  intro i tk s hk hi hst h0 hS hR
  have hin:i=n:=by lia
  refine codeAny_builtin F.entry_dict_update_loop ?_
  rw[Around.under_plainId F.plain_dict_update_loop _]
  show wpAny _ A.in1 (pyNext (.ref I)>>=_) _ _ s
  refine wpAny_bind (W.done s _ _ (hin▸hst) fun s' hm=>?_)
  show wpAny _ A.in1 (Builtin.Dict.addKeywords S []>>=fun _=>ret res) _ _ s'
  refine wpAny_bind ?_
  unfold Builtin.Dict.addKeywords
  show wpAny _ A.in1 (pure ()) _ _ s'
  refine wpAny_pure (wpAny_pure (hR s' (hm.mono hsub) ?_))
  rw[hin,List.take_of_length_le (by lia)] at hS
  obtain⟨o,es,ep,ho,rest⟩:=hS
  exact⟨o,es,ep,hm.heap S _ hSw ho,rest⟩
 | succ k ih =>
  intro i tk s hk hi hst h0 hS hR
  have hlt:i<n:=by lia
  refine codeAny_builtin F.entry_dict_update_loop ?_
  rw[Around.under_plainId F.plain_dict_update_loop _]
  show wpAny _ A.in1 (pyNext (.ref I)>>=_) _ _ s
  refine wpAny_bind (W.item i s _ _ hlt hst fun v s' hP hst' hm=>?_)
  have h0':∀b o,b∉S::wr->s0.heap.get? b=some o->s'.heap.get? b=some o:=fun b o hb e=>hm.heap b o (fun z=>hb (hsub b z)) (h0 b o hb e)
  obtain⟨k',x,hr,ht⟩:=hval i v hP
  obtain⟨t,o,c,key,rfl,ho,hc,hd,hkey⟩:=ht s'.heap h0'
  have hS':s'.heap.DictOf knd S (merged [] (rs.take i)):=by
   obtain⟨o,es,ep,ho,rest⟩:=hS
   exact⟨o,es,ep,hm.heap S _ hSw ho,rest⟩
  have hT:s'.TypeIs (.ref t) "tuple":=⟨o,ho,hc⟩
  have hlen:(merged [] (rs.take i)).length<=sizeLine:=by
   have:=jD_ (rs.take i)
   rw[List.length_take] at this
   lia
  refine wpAny_bind (wpAny_holding ?_)
  refine wpAny_bind (wpAny_tryCatch ?_)
  unfold Builtin.Dict.pairItems
  refine wpAny_bind (wpAny_typeOf hT ?_)
  refine wpAny_ite_split (fun _=>?_) (fun hab=>absurd (by decide) hab)
  repeat (any_goals (first | assumption | wp_step))
  rw[hd]
  refine wpAny_pure (wpAny_pure ?_)
  show wpAny _ _ (holding [key,x] (dictSet S key x)) _ _ _
  refine wpAny_holding (wpAny_dictSet_pairs hkey hS' (fun h' hD hsb=>?_) hlen)
  refine wpAny_pure ⟨plainId_quiet F.plain_dict_update_loop _,?_⟩
  have ei:rawInt ((i:Int)+1)=rawInt ((i+1:Nat):Int):=by push_cast;rfl
  rw[ei]
  have other:∀b o,b≠S->s'.heap.get? b=some o->h'.get? b=some o:=fun b o hb e=>(hsb.2 b hb).trans e
  refine ih (i+1) _ _ (by lia) hlt (W.frame _ s' _ _ hst' (Nat.le_succ _) fun b hb o e=>other b o (fun h:b=S=>hSf (by rw[<-h];exact hb)) e)
   (fun b o hb e=>other b o (fun h:b=S=>hb (by rw[h];exact List.mem_cons_self)) (h0' b o hb e)) ?_ fun s'' hm'' hS''=>?_
  ·rw[merged_take_succ [] rs i (k',x) hr]
   exact hD
  ·refine hR s'' (Moved.trans W.gtrans ((hm.mono hsub).then_heap (Nat.le_succ _) fun b o hb e=>?_) hm'') hS''
   exact other b o (fun h:b=S=>hb (by rw[h];exact List.mem_cons_self)) e
end
end PySem
namespace PySem
open Sem (wp)
section
variable{prog:Program}{w:World}{A:Around}{E:Value->Shared->Prop}{s:Shared}
variable{K:Type}[DecidableEq K]{knd:KeyKind prog w K}
theorem dR_{l:Addr}{items:Array Value}{c:Nat}{Q:Value->Shared->Prop}(hh:A.handled=none)(hl:s.heap.get? l=some {cls:=.type "list",data:=.seq items c})(hz:items.size<=sizeLine)(rs:List (K×Value))(hn:rs.length=items.size)
  (hval:∀(i:Nat) v,items[i]?=some v->∃k x,rs[i]?=some (k,x)/\∃t o c key,v=.ref t/\s.heap.get? t=some o/\o.cls=.type "tuple"/\o.data=.seq #[key,x] c/\knd.is k key=true)
  (hQ:∀h' tk,h'.DictOf knd s.heap.objs.size (merged [] rs)->(∀b o,s.heap.get? b=some o->h'.get? b=some o)->Q (.ref s.heap.objs.size) {s with heap:=h',toks:=tk}) :
  wpAny (model prog w) A (call (.type "dict") [.ref l]) Q E s:=by
 refine callType_codes (Q₁:=fun obj s₁=>obj=.ref s.heap.objs.size/\s₁={s with heap:=s.heap.push {cls:=.type "dict",data:=.dict #[]}}) F.kt_called_dict (F.kt_typeCall_dict_1 _) F.entry_dict_init (kt_code_dict_new _ ⟨rfl,rfl⟩) ?_
 rintro obj s₁ ⟨rfl,rfl⟩
 have hnew:(s.heap.push {cls:=.type "dict",data:=.dict #[]}).DictOf knd s.heap.objs.size []:=Heap.DictOf.new s.heap
 have hl1:(s.heap.push {cls:=.type "dict",data:=.dict #[]}).get? l=some {cls:=.type "list",data:=.seq items c}:=Heap.get?_push_of_some _ hl
 have hlS:l<s.heap.objs.size:=Heap.lt_size hl
 refine⟨hnew.typeIs,F.args_dict_init_2 _ _,?_⟩
 unfold Builtin.«dict.__init__»
 refine wpAny_bind ?_
 unfold Builtin.Dict.selfAndRest
 refine wpAny_bind (wpAny_notOrdered_dict hnew.typeIs ?_)
 show wpAny _ _ (pure (s.heap.objs.size,[Value.ref l])) _ _ _
 refine wpAny_pure ?_
 show wpAny _ _ (Builtin.Dict.updateFrom "dict.__init__" s.heap.objs.size (.ref l) [] .none) _ _ _
 unfold Builtin.Dict.updateFrom
 refine wpAny_bind (wpAny_typeOf (T:="list") ⟨_,hl1,rfl⟩ ?_)
 rw[if_pos (by decide)]
 refine wpAny_bind (hy_ hl1 rfl rfl rfl gk_ (by decide) (by simpa using hh) fun h1 tk1 k1=>?_)
 refine wpAny_ite_split (fun _=>?_) (fun hab=>absurd rfl hab)
 refine wpAny_bind (wpAny_rule ?_)
 have hl2:=k1 _ _ hl1
 refine wpAny_bind (wpAny_pyIter_list ⟨_,hl2,rfl,c,rfl⟩ ?_)
 refine wpAny_pure ⟨plainId_quiet F.plain_dict_update_loop _,?_⟩
 have hd1:(s.heap.push {cls:=.type "dict",data:=.dict #[]}).get? s.heap.objs.size=some {cls:=.type "dict",data:=.dict #[]}:=Heap.get?_push_size _ rfl
 have hd2:=k1 _ _ hd1
 have hz1:s.heap.objs.size<h1.objs.size:=Heap.lt_size hd2
 have lI:l≠h1.objs.size:=Nat.ne_of_lt (Nat.lt_trans hlS hz1)
 have hSf:s.heap.objs.size∉[h1.objs.size,l]:=by
  simp only[List.mem_cons,List.not_mem_nil,or_false,not_or]
  exact⟨Nat.ne_of_lt hz1,Nat.ne_of_gt hlS⟩
 have hh3:A.in1.in1.handled=none:=by simpa using hh
 have W:=(Walks.list (prog:=prog) (w:=w) (A:=A.in1.in1) hh3 h1.objs.size l lI items).toS
 have keep:∀b o,s.heap.get? b=some o->b∉s.heap.objs.size::[h1.objs.size]:=fun b o e z=>by
  have hb:=Heap.lt_size e
  simp only[List.mem_cons,List.not_mem_nil,or_false] at z
  rcases z with z | z
  ·rw[z] at hb;exact Nat.lt_irrefl _ hb
  ·rw[z] at hb;exact Nat.lt_irrefl _ (Nat.lt_trans hb hz1)
 refine cr_ (A:=A.in1) (knd:=knd) W s.heap.objs.size hSf .none rs hn hz s (fun i v hv=>?_) items.size 0 0 _ (by lia) (Nat.zero_le _) ⟨⟨_,Heap.get?_push_size _ rfl,rfl,rfl⟩,⟨_,Heap.get?_push_of_some _ hl2,rfl,c,rfl⟩⟩ (fun b o _ e=>Heap.get?_push_of_some _ (k1 _ _ (Heap.get?_push_of_some _ e))) ?_ fun s' hm hS=>?_
 ·obtain⟨k,x,hr,t,o,c',key,e1,e2,e3,e4,e5⟩:=hval i v hv
  exact⟨k,x,hr,fun h hk=>⟨t,o,c',key,e1,hk t o (keep t o e2) e2,e3,e4,e5⟩⟩
 ·obtain⟨o,es,ep,ho,rest⟩:=hnew
  exact⟨o,es,ep,Heap.get?_push_of_some _ (k1 _ _ ho),rest⟩
 ·rw[Moved.eq_with hm]
  refine⟨rfl,hQ s'.heap s'.toks hS fun b o e=>hm.heap b o (keep b o e) (Heap.get?_push_of_some _ (k1 _ _ (Heap.get?_push_of_some _ e)))⟩
end
end PySem
namespace Me
def look(f:List (Int×Int))(k:Int):Option Int:=(f.find? fun q=>decide (q.1=k)).map (·.2)
def put(f:List (Int×Int))(k v:Int):List (Int×Int) :=
 if (f.any fun p=>decide (p.1=k))=true then f.map (fun p=>if p.1=k then (p.1,v) else p) else f++[(k,v)]
def addTo(f:List (Int×Int))(k n:Int):List (Int×Int):=put f k ((look f k).getD 0+n)
def figs(p:Int×Int)(w:Int)(n:Nat)(acc:List (Int×Int)):List (Int×Int):=(List.range n).foldl (fun acc (d:Nat)=>addTo acc (p.1+(d:Int)*w) p.2) acc
def P_(f:List (Int×Int))(b:Nat)(w:Int):List (Int×Int):=f.foldl (fun acc p=>figs p w b acc) []
def waysW(b:Nat)(ws:List Int):List (Int×Int):=ws.foldl (fun f w=>P_ f b w) [(0,1)]
abbrev keys(f:List (Int×Int)):List Int:=f.map (·.1)
theorem ai_(p:Int×Int)(w:Int)(n:Nat)(acc:List (Int×Int)):figs p w (n+1) acc=addTo (figs p w n acc) (p.1+(n:Int)*w) p.2:=by
 unfold figs
 rw[List.range_succ,List.foldl_append]
 rfl
theorem cU_{f:List (Int×Int)}{b i:Nat}{w:Int}{p:Int×Int}(h:f[i]?=some p):P_ (f.take (i+1)) b w=figs p w b (P_ (f.take i) b w):=by
 unfold P_
 rw[List.take_add_one,h,List.foldl_append]
 rfl
theorem ea_{b i:Nat}{ws:List Int}{w:Int}(h:ws[i]?=some w):waysW b (ws.take (i+1))=P_ (waysW b (ws.take i)) b w:=by
 unfold waysW
 rw[List.take_add_one,h,List.foldl_append]
 rfl
theorem gl_(f:List (Int×Int))(k v:Int):keys (f.map fun p=>if p.1=k then (p.1,v) else p)=keys f:=by
 rw[keys,List.map_map]
 apply List.map_congr_left
 intro p _
 show(if p.1=k then (p.1,v) else p).1=p.1
 split <;> rfl
theorem iT_{f:List (Int×Int)}{k v:Int}:(keys f).Nodup->(keys (put f k v)).Nodup:=by
 intro nd
 unfold put
 split
 ·rw[gl_];exact nd
 ·rename_i h
  have hn:k∉keys f:=fun z=>h (by
   obtain⟨p,hp,e⟩:=List.mem_map.mp z
   exact List.any_eq_true.mpr ⟨p,hp,by simpa using e⟩)
  rw[keys,List.map_append]
  refine List.nodup_append.mpr ⟨nd,by simp,fun a ha b hb=>?_⟩
  have:b=k:=by simpa using hb
  rw[this]
  exact fun z=>hn (z▸ha)
theorem py_{f:List (Int×Int)}{k v lo hi:Int}(h:∀x∈keys f,lo<=x/\x<=hi)(hk:lo<=k/\k<=hi):∀x∈keys (put f k v),lo<=x/\x<=hi:=by
 unfold put
 split
 ·rw[gl_];exact h
 ·intro x hx
  rw[keys,List.map_append] at hx
  rcases List.mem_append.mp hx with hx | hx
  ·exact h x hx
  ·have:x=k:=by simpa using hx
   rw[this];exact hk
structure Ok(f:List (Int×Int))(m:Int):Prop where
 nd:(keys f).Nodup
 bd:∀x∈keys f,-m<=x/\x<=m
theorem Ok.put{f:List (Int×Int)}{m k v:Int}(o:Ok f m)(h : -m<=k/\k<=m):Ok (put f k v) m:=⟨iT_ o.nd,py_ o.bd h⟩
theorem Ok.nil{m:Int}:Ok [] m:=⟨by simp[keys],fun x h=>by simp[keys] at h⟩
theorem gN_{m x w:Int}{d b:Nat}(hx : -m<=x/\x<=m)(hw : -9<=w/\w<=9)(hb:b<=16)(hd:d<b) : -(m+135)<=x+(d:Int)*w/\x+(d:Int)*w<=m+135:=by
 have d0:(0:Int)<=d:=by lia
 have d15:(d:Int)<=15:=by lia
 have a1:(d:Int)*w<=d*9:=Int.mul_le_mul_of_nonneg_left hw.2 d0
 have a2:(d:Int)*(-9)<=d*w:=Int.mul_le_mul_of_nonneg_left hw.1 d0
 lia
theorem hI_{f:List (Int×Int)}{m w:Int}{p:Int×Int}{b:Nat}(hp : -m<=p.1/\p.1<=m)(hw : -9<=w/\w<=9)(hb:b<=16)(o:Ok f (m+135)):∀n,n<=b->Ok (figs p w n f) (m+135)
 | 0,_=>o
 | n+1,h=>by
  rw[ai_]
  exact(hI_ hp hw hb o n (by lia)).put (gN_ hp hw hb (by lia))
theorem bC_{f:List (Int×Int)}{m w:Int}{b:Nat}(o:Ok f m)(hw : -9<=w/\w<=9)(hb:b<=16):∀i,Ok (P_ (f.take i) b w) (m+135)
 | 0=>Ok.nil
 | i+1=>by
  cases h:f[i]? with
  | none =>
   rw[List.take_add_one,h]
   simpa using bC_ o hw hb i
  | some p =>
   rw[cU_ h]
   exact hI_ (o.bd p.1 (List.mem_map.mpr ⟨p,List.mem_of_getElem? h,rfl⟩)) hw hb (bC_ o hw hb i) b (Nat.le_refl _)
theorem ho_{f:List (Int×Int)}{m w:Int}{b:Nat}(o:Ok f m)(hw : -9<=w/\w<=9)(hb:b<=16):Ok (P_ f b w) (m+135):=by
 have:=bC_ o hw hb f.length
 rwa [List.take_length] at this
theorem ex_{b:Nat}{ws:List Int}(hw:∀w∈ws,-9<=w/\w<=9)(hb:b<=16):∀i:Nat,Ok (waysW b (ws.take i)) (135*i)
 | 0 => ⟨by simp[waysW, keys], fun x h => by have : x = 0 := by simpa [waysW, keys] using h
                                             lia⟩
 | i+1=>by
  cases h:ws[i]? with
  | none =>
   rw[List.take_add_one,h]
   have o:=ex_ hw hb i
   simp only[Option.toList_none,List.append_nil]
   exact⟨o.nd,fun x hx=>by have:=o.bd x hx;lia⟩
  | some w =>
   rw[ea_ h]
   have o:=ho_ (ex_ hw hb i) (hw w (List.mem_of_getElem? h)) hb
   have e:(135*((i+1:Nat):Int))=135*(i:Int)+135:=by lia
   rw[e]
   exact o
theorem cV_{b:Nat}{ws:List Int}(hw:∀w∈ws,-9<=w/\w<=9)(hb:b<=16):Ok (waysW b ws) (135*ws.length):=by
 have:=ex_ hw hb ws.length
 rwa [List.take_length] at this
theorem kr_{α:Type}[DecidableEq α]:∀ {l m:List α},l.Nodup->(∀x∈l,x∈m)->l.length<=m.length
 | [],_,_,_=>Nat.zero_le _
 | x::l,m,nd,h=>by
  have hx:=h x (by simp)
  have hn:=(List.nodup_cons.mp nd).1
  have:=kr_ (l:=l) (m:=m.erase x) (List.nodup_cons.mp nd).2 fun y hy=>(List.mem_erase_of_ne (show y≠x from fun e=>hn (by rw[<-e];exact hy))).mpr (h y (List.mem_cons_of_mem _ hy))
  rw[List.length_erase_of_mem hx] at this
  have hp:0<m.length:=List.length_pos_of_mem hx
  simp only[List.length_cons]
  lia
theorem Ok.len{f:List (Int×Int)}{m:Nat}(o:Ok f m):f.length<=2*m+1:=by
 have h:=kr_ (l:=keys f) (m:=(List.range (2*m+1)).map fun(i:Nat)=>(i:Int)-m) o.nd fun x hx=>by
  have:=o.bd x hx
  refine List.mem_map.mpr ⟨(x+m).toNat,List.mem_range.mpr (by lia),by lia⟩
 simpa [keys] using h
theorem ba_:∀ {g:List (Int×Int)} {p:Int×Int},(keys g).Nodup->p∈g->look g p.1=some p.2
 | [],_,_,h=>by simp at h
 | q::g,p,nd,h=>by
  have hn:q.1∉keys g:=(List.nodup_cons.mp nd).1
  have nd':=(List.nodup_cons.mp nd).2
  rcases List.mem_cons.mp h with rfl | h
  ·simp[look,List.find?_cons]
  ·have hne:¬ q.1=p.1:=fun e=>hn (by rw[e];exact List.mem_map.mpr ⟨p,h,rfl⟩)
   have:=ba_ nd' h
   simpa [look,List.find?_cons,hne] using this
theorem jq_{f:List (Int×Int)}(nd:(keys f).Nodup){ns:List Int}(h:ns.Perm (keys f)):(ns.map fun n=>(n,(look f n).getD 0)).Perm f:=by
 have h1:=h.map fun n=>(n,(look f n).getD 0)
 have e:(keys f).map (fun n=>(n,(look f n).getD 0))=f:=by
  rw[keys,List.map_map]
  conv=>rhs;rw[<-List.map_id f]
  apply List.map_congr_left
  intro p hp
  show(p.1,(look f p.1).getD 0)=p
  rw[ba_ nd hp]
  rfl
 rw[e] at h1
 exact h1
theorem kR_{f:List (Int×Int)}{k v:Int}(h:k∉keys f):put f k v=f++[(k,v)]:=by
 unfold put
 rw[if_neg]
 intro z
 obtain⟨p,hp,e⟩:=List.any_eq_true.mp z
 exact h (List.mem_map.mpr ⟨p,hp,by simpa using e⟩)
def iO_(f more:List (Int×Int)):List (Int×Int):=more.foldl (fun acc p=>put acc p.1 p.2) f
theorem gi_:∀(more f:List (Int×Int)),(keys (f++more)).Nodup->iO_ f more=f++more
 | [],f,_=>by simp[iO_]
 | p::r,f,nd=>by
  have hp:p.1∉keys f:=by
   rw[keys,List.map_append] at nd
   have:=(List.nodup_append.mp nd).2.2
   exact fun z=>this p.1 z p.1 (by simp) rfl
  show iO_ (put f p.1 p.2) r=_
  rw[kR_ hp,gi_ r (f++[(p.1,p.2)]) (by simpa using nd)]
  simp
end Me
namespace L2
open PySem PySem.Spec PyProof.Rows
theorem Paired.at{α β:Type}{R:α->β->Prop}{as:List α}{bs:List β}{i:Nat}{a:α}(h:Paired R as bs)(e:as[i]?=some a):∃b,bs[i]?=some b/\R a b:=by
 induction h generalizing i with
 | nil=>simp at e
 | cons r _ ih =>
  cases i with
  | zero=>simp at e;subst e;exact⟨_,rfl,r⟩
  | succ i =>
   obtain⟨b,h1,h2⟩:=ih (i:=i) (by simpa using e)
   exact⟨b,by simpa using h1,h2⟩
abbrev ca_(H:Hp)(ts:List Addr)(kvs:List (Key×V)):Prop:=Paired (fun(t:Addr) (p:Key×V)=>H t=some (.tup [kV p.1,p.2])) ts kvs
theorem iA_{P:Program}{w:World}{H:Hp}{h:Heap}(ok:HOk P w H h):∀ {ts:List Addr} {kvs:List (Key×V)} {its:List Value},ca_ H ts kvs->Vals (ts.map V.ref) its->
  ∃rs:List (Key×Value),KV kvs rs/\Paired (fun(u:Value) (r:Key×Value)=>∃t o c key,u=.ref t/\h.get? t=some o/\o.cls=.type "tuple"/\o.data=.seq #[key,r.2] c/\(u_ P w).is r.1 key=true) its rs
 | [],_,_,.nil,r=>by cases r;exact⟨[],.nil,.nil⟩
 | t::ts,p::kvs,its,.cons e hp,r=>by
  cases r with
  | cons r0 rr =>
   cases r0
   obtain⟨rs,a,b⟩:=iA_ ok hp rr
   obtain⟨_,its2,rv,tu⟩:=ok t _ e
   obtain⟨u1,u2,rfl,r1,r2⟩:=rv.two
   obtain⟨o,c,ho,hc,hd⟩:∃o c,h.get? t=some o/\o.cls=.type "tuple"/\o.data=.seq #[u1,u2] c:=by
    obtain⟨o,ho,hc,c,hd⟩:=tu
    exact⟨o,c,ho,hc,hd⟩
   exact⟨(p.1,u2)::rs,.cons ⟨rfl,r2⟩ a,.cons ⟨t,o,c,u1,rfl,ho,hc,hd,jK_ r1⟩ b⟩
section
variable{X:Cx}{o:Expr}{td:TE}
theorem jU_(hc:X.calm=true):CallR X (.type "dict") (fun xs H Q=>∃(l:Addr) (ts:List Addr) (kvs:List (Key×V)),xs=[.ref l]/\H l=some (.lst (ts.map V.ref))/\ca_ H ts kvs/\
  ∀p,H p=none->Q (.ref p) (upd H p (.dK (aN_ [] kvs)))):=by
 intro pins s σ H xs us Q I r h
 obtain⟨l,ts,kvs,rfl,e,hp,q⟩:=h
 obtain⟨u,rfl,ru⟩:=vals1 r
 cases ru
 obtain⟨z,its,n,rv,e1⟩:=I.hok l _ e
 obtain⟨rs,hk,hr⟩:=iA_ I.hok hp rv
 have hlen:rs.length=its.length:=hr.length.symm
 have hz:its.length<=sizeLine:=by rw[<-rv.length];exact z
 refine dR_ (knd:=u_ X.prog X.w) (I.ok.hd hc) e1 (by rw[List.size_toArray];exact hz) rs (by rw[List.size_toArray];exact hlen) (fun i v hv=>?_) fun h' tk dd k=>?_
 ·obtain⟨b,hb,t,o,c,key,x1,x2,x3,x4,x5⟩:=Paired.at (i:=i) (a:=v) hr (by simpa using hv)
  exact⟨b.1,b.2,hb,t,o,c,key,x1,x2,x3,x4,x5⟩
 ·have hm:=bb_ kvs []
  have hkl:=hk.length
  refine⟨.ref _,_,I.laid (a:=s.heap.objs.size) (o:=.dK (aN_ [] kvs)) (t':=tk) k (Nat.le_refl _) (lX_ ?_ (beq_eq_false_iff_ne.mpr (Ne.symm (Nat.ne_of_lt I.big))) (KV.merge hk .nil) dd),rfl,q _ (I.hok.fresh (Nat.le_refl _))⟩
  simp only[List.length_nil] at hm
  lia
end
def intsD(f:List (Int×Int)):List (Key×V):=f.map fun p=>(Sum.inl p.1,V.int p.2)
theorem kb_(f:List (Int×Int))(k:Int):valV (intsD f) (Sum.inl k)=(Me.look f k).map V.int:=by
 induction f with
 | nil=>rfl
 | cons p r ih =>
  by_cases e:p.1=k
  ·have h1:valV (intsD (p::r)) (Sum.inl k)=some (V.int p.2):=cW_ (by show Sum.inl p.1=Sum.inl k;rw[e])
   rw[h1]
   simp[Me.look,List.find?_cons,e]
  ·have h1:valV (intsD (p::r)) (Sum.inl k)=valV (intsD r) (Sum.inl k):=cX_ (by intro z;exact e (Sum.inl.inj z))
   rw[h1,ih]
   simp[Me.look,List.find?_cons,e]
section
variable{X:Cx}
end
theorem iv_(f:List (Int×Int))(k v:Int):putK (intsD f) (Sum.inl k) (V.int v)=intsD (Me.put f k v):=by
 have e:((intsD f).any fun kv=>decide (kv.1=Sum.inl k))=f.any fun p=>decide (p.1=k):=by
  rw[intsD,List.any_map]
  congr 1
  funext p
  show decide (Sum.inl p.1=(Sum.inl k:Key))=decide (p.1=k)
  by_cases z:p.1=k
  ·simp[z]
  ·have z':¬ (Sum.inl p.1:Key)=Sum.inl k:=fun q=>z (Sum.inl.inj q)
   simp[z,z']
 unfold putK Me.put
 rw[e]
 split
 ·rw[intsD,List.map_map,intsD,List.map_map]
  apply List.map_congr_left
  intro p _
  show(if (Sum.inl p.1:Key)=Sum.inl k then (Sum.inl p.1,V.int v) else (Sum.inl p.1,V.int p.2))=(Sum.inl (if p.1=k then (p.1,v) else p).1,V.int (if p.1=k then (p.1,v) else p).2)
  by_cases z:p.1=k
  ·rw[if_pos (by rw[z]),if_pos z]
  ·rw[if_neg (fun q=>z (Sum.inl.inj q)),if_neg z]
 ·simp[intsD]
theorem ep_:∀(more f:List (Int×Int)),aN_ (intsD f) (intsD more)=intsD (Me.iO_ f more)
 | [],f=>rfl
 | p::r,f=>by
  show aN_ (putK (intsD f) (Sum.inl p.1) (V.int p.2)) (intsD r)=_
  rw[iv_,ep_ r]
  rfl
section
variable{X:Cx}
theorem cs_(hc:X.calm=true):CallR X (.builtin "sum") (fun xs H Q=>∃(p:Addr) (ns:List Int),xs=[.ref p]/\SqL X.K H p (ns.map V.int)/\Q (.int ns.sum) H):=by
 intro pins s σ H xs us Q I r h
 obtain⟨p,ns,rfl,hq,q⟩:=h
 obtain⟨u,rfl,rx⟩:=vals1 r
 cases rx
 obtain⟨its,rv,pl,hz⟩:=I.list hq
 have hl:=pl.isList
 have hlt:p<s.heap.objs.size:=by obtain⟨_,e,_⟩:=hl;exact Heap.lt_size e
 have hn:its.toArray.size=ns.length:=by rw[List.size_toArray,<-rv.length,List.length_map]
 refine call_sum_walkG (wpAny_pyIter_list hl ?_)
 refine⟨_,_,_,_,_,_,fun i=>(ns[i]?).getD 0,rfl,Walks.list (A:=X.A.in1) (I.ok.hd hc) s.heap.objs.size p (Nat.ne_of_lt hlt) its.toArray,⟨⟨_,Heap.get?_push_size _ rfl,rfl,rfl⟩,hl.push _⟩,fun b hb'=>?_,fun i v hP=>?_,fun h' tk t' hk=>?_⟩
 ·show b<(s.heap.push _).objs.size
  rw[Heap.size_push]
  rcases List.mem_cons.mp hb' with rfl | hb'
  ·exact Nat.lt_succ_self _
  ·have e:b=p:=by simpa using hb'
   rw[e];exact Nat.lt_succ_of_lt hlt
 ·have hv:its[i]?=some v:=by simpa using hP
  cases eb:ns[i]? with
  | none =>
   have:=rv.none_of (i:=i) (by rw[List.getElem?_map,eb];rfl)
   rw[this] at hv;cases hv
  | some b =>
   obtain⟨u,hu,ru⟩:=rv.get (i:=i) (x:=.int b) (by rw[List.getElem?_map,eb];rfl)
   rw[hu] at hv;cases hv
   obtain⟨t,rfl⟩:=ru
   exact⟨t,by simp[eb]⟩
 ·rw[hn,ci_ ns ns.length (Nat.le_refl _),List.take_length]
  exact⟨.int _,H,(show Inv X pins σ H {s with heap:=h',toks:=tk} from seen I hk),⟨_,rfl⟩,q⟩
def qh_(td:TE):TE:=fun σ H Q=>td σ H fun x H1=>∃a kvs,∃ns:List Int,x=.ref a/\H1 a=some (.dK kvs)/\kvs.map (·.2)=ns.map V.int/\Q (.int ns.sum) H1
theorem mO_{o:Expr}{td:TE}{p1 q1 apos cpos:Pos}(hc:X.calm=true)(hm1:X.mg "sum"=none)(hg1:Gl X "sum")(ho:PE X o td)(hbase:attributeBase o "values" X.env (eval o X.env)=eval o X.env:=by rfl)(hline:(apos.endLine==cpos.line)=true:=by rfl) :
  PE X (.Call (.Name "sum" p1) [.Call (.Attribute o "values" apos) [] [] cpos] [] q1) (qh_ td):=by
 intro pins s σ H Q I h
 refine wpAny_Call_Name_kw (bJ_ I hg1 hm1 boot_sum ?_)
 refine PyProof.Rows.callWith_builtin1 ?_ rfl rfl
 show wpAny _ _ (spliced ((false,eval (.Call (.Attribute o "values" apos) [] [] cpos) X.env)::backTo q1 (starEach [] X.env))) _ _ s
 refine Calls.spliced_cons ?_
 refine wpAny_Call_method0_late hbase hline (thn (ho pins s σ H _ I h) fun v s1 ⟨x,H1,I1,r1,a,kvs,ns,ex,he,hns,q⟩=>?_)
 subst ex
 obtain rfl:v=Value.ref a:=r1
 obtain⟨t1,t2,_⟩:=oo_ I1 (.inl ⟨kvs,.inl he⟩)
 obtain⟨z,hd,vs,rel,dd⟩:=jR_ I1.hok he
 refine⟨"dict","dict.values",PySem.F.plainAttrs_dict,PySem.F.slot_dict_values,PySem.F.type_dict_values,t1,t2,Calls.callWith_builtin rfl (PySem.evalArgs_none ?_)⟩
 refine call_meetsIn PySem.F.slot_dict_values dd.typeIs PySem.F.entry_dict_values (PySem.F.args_dict_values_1 _) (meets_dict_values (u_ X.prog X.w) a hd) ⟨⟨_,dd⟩,?_⟩
 refine Calls.spliced_nil ?_
 obtain⟨ob,es,ep,hob,rest⟩:=dd
 have hob2:=Heap.get?_push_of_some {cls:=.type "dict_values",data:=.fields #[.ref a]} hob
 have hl:=rel.length
 have hln:kvs.length=ns.length:=by simpa using congrArg List.length hns
 have KS:=PySem.W.kdl_values (prog:=X.prog) (w:=X.w) (r:=s1.heap.objs.size) (d:=a) (ep:=ep) (kvs:=vs) (knd:=u_ X.prog X.w)
 have hok:(s1.heap.push {cls:=.type "dict_values",data:=.fields #[.ref a]}).IsValuesView s1.heap.objs.size a/\(s1.heap.push {cls:=.type "dict_values",data:=.fields #[.ref a]}).DictAt (u_ X.prog X.w) a vs ep:=⟨⟨_,Heap.get?_push_size _ rfl,rfl,rfl⟩,⟨ob,es,hob2,rest⟩⟩
 refine call_sum_walkG ?_
 obtain⟨oI,St,hit,W,st⟩:=KS.iter X.A.in1 {s1 with heap:=s1.heap.push {cls:=.type "dict_values",data:=.fields #[.ref a]}} (I1.ok.hd hc) hok
 refine hit _ _ ⟨_,_,_,_,_,_,fun i=>(ns[i]?).getD 0,rfl,W,st,fun b hb=>?_,fun i v hv=>?_,fun h' tk t' hk=>?_⟩
 ·show b<(Heap.push _ oI).objs.size
  rw[Heap.size_push]
  rcases List.mem_cons.mp hb with e | hb
  ·rw[e];exact Nat.lt_succ_self _
  ·rw[List.mem_singleton.mp hb];exact Nat.lt_succ_of_lt (KS.there _ hok).2
 ·obtain⟨k',e1⟩:=hv
  have hi:i<kvs.length:=by rw[hl];exact(List.getElem?_eq_some_iff.mp e1).1
  obtain⟨u',hu',ru⟩:=KV.at rel (i:=i) (p:=kvs[i]) (by simp[hi])
  rw[e1] at hu'
  have eu:v=u':=congrArg Prod.snd (Option.some.inj hu')
  have e2:(kvs.map (·.2))[i]?=(ns.map V.int)[i]?:=by rw[hns]
  have e3:(kvs.map (·.2))[i]?=some (kvs[i]).2:=by simp[hi]
  have e4:(ns.map V.int)[i]?=some (V.int ns[i]):=by simp[show i<ns.length by omega]
  rw[e3,e4] at e2
  have e5:=Option.some.inj e2
  rw[e5] at ru
  obtain⟨t,rfl⟩:=ru
  refine⟨t,?_⟩
  rw[eu]
  have e6:ns[i]?=some ns[i]:=List.getElem?_eq_getElem (show i<ns.length by omega)
  show Value.int ns[i] t=Value.int ((ns[i]?).getD 0) t
  rw[e6]
  rfl
 ·rw[<-hl,hln,ci_ ns ns.length (Nat.le_refl _),List.take_length]
  have hk2:∀b o,s1.heap.get? b=some o->h'.get? b=some o:=fun b o e=>hk b o (fun hI=>absurd (Heap.lt_size e) (by
   rw[List.mem_singleton.mp hI]
   show ¬ (s1.heap.push _).objs.size<_
   rw[Heap.size_push];omega)) (Heap.get?_push_of_some _ (Heap.get?_push_of_some _ e))
  exact⟨.int _,H1,I1.kept (t':=tk) (h':=h') hk2,⟨_,rfl⟩,q⟩
end
end L2
namespace Hv
open PySem L2
section
variable{P:Program}{w:World}{K:PySem.W.Frag}{mg:Str->Option Value}{base:Heap}
theorem oR_:FnScope ["thing"] ["thing"] (g_ kJ_):=⟨rfl,rfl,rfl,by decide +kernel,rfl,by decide +kernel,by decide +kernel⟩
theorem mS_{f:Addr}{fd:FuncData}(F:Fun K "is_whole" "is_whole" kJ_ f fd)(T:Txt mg):FnOk P w K mg base CX0 1 f fd ["thing"] dm_:=by
 refine F.ok oR_ (fun vs H Q E h=>?_) (fun cdv A outer s H vs Q E hr h=>?_)
 ·obtain⟨v,rfl,_⟩:=h;rfl
 ·obtain⟨v,rfl,ty,k⟩:=h
  refine⟨_,h_ (m_ (cl_ (o_ ap_ (by rfl) T.isi boot_isinstance (a_ (pv 0) (a_ (dW_ T.int boot_int) c_)))
   (cT_ (nY_ (o_ ap_ (by rfl) T.isi boot_isinstance (a_ (pv 0) (a_ (dW_ T.bool boot_bool) c_))))))),?_⟩
  cases ty with
  | non=>exact⟨_,rfl,_,_,_,_,rfl,.non,og_,false,rfl,iteF k⟩
  | bl b=>exact⟨_,rfl,_,_,_,_,rfl,.bl b,ol_,true,rfl,iteT ⟨_,rfl,_,_,_,_,rfl,.bl b,om_,true,rfl,k⟩⟩
  | int i=>exact⟨_,rfl,_,_,_,_,rfl,.int i,oi_,true,rfl,iteT ⟨_,rfl,_,_,_,_,rfl,.int i,oj_,false,rfl,k⟩⟩
  | str x=>exact⟨_,rfl,_,_,_,_,rfl,.str x,oe_,false,rfl,iteF k⟩
  | lst e=>exact⟨_,rfl,_,_,_,_,rfl,.lst e,oh_,false,rfl,iteF k⟩
  | tup e=>exact⟨_,rfl,_,_,_,_,rfl,.tup e,oc_,false,rfl,iteF k⟩
  | dK e=>exact⟨_,rfl,_,_,_,_,rfl,.dK e,ok_,false,rfl,iteF k⟩
theorem qo_:FnScope ["thing","least","greatest"] ["thing","least","greatest"] (g_ sBetw):=⟨rfl,rfl,rfl,by decide +kernel,rfl,by decide +kernel,by decide +kernel⟩
theorem pn_{f:Addr}{fd:FuncData}(F:Fun K "is_between" "is_between" sBetw f fd)(D1:Def P w K mg base 1 "is_whole" ["thing"] dm_):FnOk P w K mg base CX0 2 f fd ["thing","least","greatest"] bH_:=by
 refine F.ok qo_ (fun vs H Q E h=>?_) (fun cdv A outer s H vs Q E hr h=>?_)
 ·obtain⟨v,lo,hi,rfl,_⟩:=h;rfl
 ·obtain⟨v,lo,hi,rfl,ty,k⟩:=h
  refine⟨_,h_ (m_ (cl_ (l_ D1 hr (by rfl) (a_ (pv 0) c_)) (cT_ (iz_ fU_ fU_ (pv 1) (pv 0) (pv 2))))),?_⟩
  refine⟨_,rfl,v,rfl,ty,_,rfl,?_⟩
  cases v with
  | int i =>
   refine iteT ?_
   refine⟨_,rfl,_,rfl,_,_,rfl,rfl,_,rfl,?_⟩
   by_cases h1:lo<=i
   ·rw[decide_eq_true h1]
    refine iteT ⟨_,rfl,_,_,rfl,rfl,?_⟩
    have e:betw (.int i) lo hi=decide (i<=hi):=by simp[betw,h1]
    rw[e] at k
    exact k
   ·rw[decide_eq_false h1]
    refine iteF ?_
    have e:betw (.int i) lo hi=false:=by simp[betw,h1]
    rw[e] at k
    exact k
  | _=>exact iteF k
theorem oS_:FnScope ["thing","least","greatest"] ["thing","least","greatest"] (g_ iq_):=⟨rfl,rfl,rfl,by decide +kernel,rfl,by decide +kernel,by decide +kernel⟩
theorem mV_{f:Addr}{fd:FuncData}(F:Fun K "is_list_between" "is_list_between" iq_ f fd)(T:Txt mg)(D2:Def P w K mg base 2 "is_between" ["thing","least","greatest"] bH_):FnOk P w K mg base CX0 3 f fd ["thing","least","greatest"] gQ_:=by
 refine F.ok oS_ (fun vs H Q E h=>?_) (fun cdv A outer s H vs Q E hr h=>?_)
 ·obtain⟨a,xs,lo,hi,rfl,_⟩:=h;rfl
 ·obtain⟨a,xs,lo,hi,rfl,ha,hlen,hth,k⟩:=h
  refine⟨_,h_ (m_ (cl_ (o_ ap_ (by rfl) T.isi boot_isinstance (a_ (pv 0) (a_ (dW_ T.list boot_list) c_)))
   (cT_ (o_ (nG_ rfl) (by rfl) T.all boot_all (a_
    (bt_ (g_ iq_) ["thing","least","greatest"] ["least","greatest"] [1,2] rfl (O_ (pv 0)) (fun cl C s H fp=>aD_) (fun cl C s H fp=>l_ D2 hr (by rfl) (a_ (pv 0) (a_ (pv 1) (a_ (pv 2) c_)))) (by decide +kernel)) c_))))),?_⟩
  refine⟨_,rfl,_,_,_,_,rfl,.lst ha,qP_,true,rfl,iteT ?_⟩
  refine⟨_,rfl,a,rfl,⟨_,SqL.of ha⟩,ab_ (K:=K) (a:=a) (xs:=xs) (fun i ys H2=>ys=((xs.take i).map fun x=>V.bl (betw x lo hi))/\Same H H2) ⟨by simp,Same.refl _⟩ (fun i ys H2 _ p=>SqL.of (p.2 _ _ ha)) ?_ ?_⟩
  ·rintro i x ys H2 hx ⟨rfl,s2⟩
   have hil:i<xs.length:=(List.getElem?_eq_some_iff.mp hx).1
   refine⟨szl (by rw[List.length_map,List.length_take];lia),?_⟩
   refine⟨_,rfl,_,rfl,_,rfl,x,lo,hi,rfl,(hth x (List.mem_of_getElem? hx)).keep s2,?_,s2⟩
   rw[List.take_add_one,hx]
   simp
  ·rintro ys H2 ⟨rfl,s2⟩ D hD
   refine⟨D,xs.map fun x=>betw x lo hi,rfl,SqL.of ?_,?_⟩
   ·rw[d_,List.take_length,List.map_map]
    rfl
   ·have e:(xs.map fun x=>betw x lo hi).all id=xs.all fun x=>betw x lo hi:=by rw[List.all_map];rfl
    rw[e]
    exact k _ (D_ s2 (s2.free hD))
theorem kF_:FnScope ["thing"] ["thing"] (g_ eO_):=⟨rfl,rfl,rfl,by decide +kernel,rfl,by decide +kernel,by decide +kernel⟩
theorem jw_{f:Addr}{fd:FuncData}(F:Fun K "is_frame" "is_frame" eO_ f fd)(T:Txt mg)(D2:Def P w K mg base 2 "is_between" ["thing","least","greatest"] bH_)(D3:Def P w K mg base 3 "is_list_between" ["thing","least","greatest"] gQ_) :
  FnOk P w K mg base CX0 4 f fd ["thing"] dr_:=by
 refine F.ok kF_ (fun vs H Q E h=>?_) (fun cdv A outer s H vs Q E hr h=>?_)
 ·obtain⟨g,a,c,b,ps,ws,rfl,_⟩:=h;rfl
 ·obtain⟨g,a,c,b,ps,ws,rfl,G,k⟩:=h
  have ok:=G.ok
  have hsum:=ok.sum
  refine⟨_,b_ (F_ (PW.pt (eR_ (al_ (ag_ (o_ ap_ (by rfl) T.isi boot_isinstance (a_ (pv 0) (a_ (dW_ T.tuple boot_tuple) c_))))) (cR_ (s_ mQ_ (lenS T.len (by rfl) (pv 0)) e_ (nomark _))))) (h_ (m_ cH_)) q_)
   (b_ (F_ (al_ (ag_ (l_ D2 hr.mo (by rfl) (a_ (ixt (pv 0) e_) (a_ e_ (a_ e_ c_)))))) (h_ (m_ cH_)) q_)
   (b_ (F_ (PW.pt (eR_ (al_ (ag_ (l_ D3 hr (by rfl) (a_ (ixt (pv 0) e_) (a_ e_ (a_ e_ c_)))))) (cR_ (al_ (iw_ fU_ fU_ e_ (lenS T.len (by rfl) (ixt (pv 0) e_)) e_))))) (h_ (m_ cH_)) q_)
   (h_ (m_ (cl_ (l_ D3 hr (by rfl) (a_ (ixt (pv 0) e_) (a_ (cj_ ax_ e_) (a_ e_ c_))))
    (cT_ (bU_ cn_ (lenS T.len (by rfl) (ixt (pv 0) e_)) (o_ (cs_ rfl) (by rfl) T.sum boot_sum (a_ (ixt (pv 0) e_) c_)) (nomark _)))))))),?_⟩
  refine⟨_,rfl,_,_,_,_,rfl,.tup G.tp,qO_,true,rfl,iteF ?_⟩
  refine⟨_,rfl,g,_,rfl,.inr (SqT.of G.tp),rfl,_,rfl,iteNS rfl ?_⟩
  refine⟨_,rfl,_,_,_,_,rfl,rfl,SqT.of G.tp,rfl,⟨.int b,2,16,rfl,.int _,_,rfl,?_⟩⟩
  have e1:betw (.int b) 2 16=true:=by
   have h1:=ok.b2
   have h2:=ok.b16
   simp only[betw,Bool.and_eq_true,decide_eq_true_eq]
   lia
  rw[e1]
  refine iteF ?_
  refine⟨_,rfl,_,_,_,_,rfl,rfl,SqT.of G.tp,rfl,⟨a,_,1,6,rfl,G.hp,(by simp[natV];have:=ok.l4;lia),gJ_ ps,fun H1 s1=>⟨_,rfl,?_⟩⟩⟩
  have e2:((natV ps).all fun x=>betw x 1 6)=true:=mm_ (lo:=1) (hi:=6) ok.pr
  rw[e2]
  refine iteF ?_
  refine⟨_,rfl,_,_,_,_,rfl,rfl,SqT.of (s1 _ _ G.tp),rfl,⟨a,_,rfl,.inl (SqL.of (s1 _ _ G.hp)),_,_,rfl,rfl,_,rfl,?_⟩⟩
  have e3:((natV ps).length:Int)=ps.length:=by simp[natV]
  have l2:=ok.l2
  have l4:=ok.l4
  refine ite2 (fun _=>?_) (fun h=>absurd (decide_eq_true (by lia)) h)
  refine⟨_,_,rfl,rfl,_,rfl,?_⟩
  refine iteNS (by lia) ?_
  refine⟨_,rfl,_,_,_,_,rfl,rfl,SqT.of (s1 _ _ G.tp),rfl,⟨_,rfl,⟨c,_,-9,9,rfl,s1 _ _ G.hw,(by rw[List.length_map,ok.wl];lia),gK_ ws,fun H2 s2=>⟨_,rfl,?_⟩⟩⟩⟩
  have e4:((ws.map V.int).all fun x=>betw x (-9) 9)=true:=mn_ ok.wr
  rw[e4]
  refine iteT ?_
  have G2:=(G.keep s1).keep s2
  refine⟨_,rfl,_,_,_,_,rfl,rfl,SqT.of G2.tp,rfl,⟨c,_,rfl,.inl (SqL.of G2.hw),?_⟩⟩
  refine⟨_,rfl,_,_,_,_,rfl,rfl,SqT.of G2.tp,rfl,⟨a,ps.map fun(p:Nat)=>(p:Int),rfl,SqL.of (by rw[<-hA_];exact G2.hp),rfl,?_⟩⟩
  ·have e5:decide (V.int ((ws.map V.int).length:Int)=V.int (ps.map fun(p:Nat)=>(p:Int)).sum)=true:=by
    rw[decide_eq_true_eq,Ma.eA_,List.length_map,ok.wl]
   rw[e5]
   exact k H2 (s1.trans s2)
theorem gY_:FnScope ["thing"] ["thing"] (g_ cB_):=⟨rfl,rfl,rfl,by decide +kernel,rfl,by decide +kernel,by decide +kernel⟩
theorem ga_{f:Addr}{fd:FuncData}(F:Fun K "need_frame" "need_frame" cB_ f fd)(D4:Def P w K mg base 4 "is_frame" ["thing"] dr_):FnOk P w K mg base CX0 5 f fd ["thing"] K_:=by
 refine F.ok gY_ (fun vs H Q E h=>?_) (fun cdv A outer s H vs Q E hr h=>?_)
 ·obtain⟨g,a,c,b,ps,ws,rfl,_⟩:=h;rfl
 ·obtain⟨g,a,c,b,ps,ws,rfl,G,k⟩:=h
  refine⟨_,h_ (F_ (al_ (ag_ (l_ D4 hr (by rfl) (a_ (pv 0) c_)))) Q_ q_),?_⟩
  exact⟨_,rfl,g,a,c,b,ps,ws,rfl,G,fun H1 s1=>⟨_,rfl,iteF (k H1 s1)⟩⟩
theorem cg_:FnScope ["frame","many","place"] ["frame"] (g_ eP_):=⟨rfl,rfl,rfl,by decide +kernel,rfl,by decide +kernel,by decide +kernel⟩
theorem jx_{f:Addr}{fd:FuncData}(F:Fun K "how_many" "how_many" eP_ f fd)(T:Txt mg)(D5:Def P w K mg base 5 "need_frame" ["thing"] K_):FnOk P w K mg base CX0 6 f fd ["frame"] bi_:=by
 refine F.ok cg_ (fun vs H Q E h=>?_) (fun cdv A outer s H vs Q E hr h=>?_)
 ·obtain⟨g,a,c,b,ps,ws,rfl,_⟩:=h;rfl
 ·obtain⟨g,a,c,b,ps,ws,rfl,G,k⟩:=h
  have ok:=G.ok
  have hsum:=ok.sum
  refine⟨_,b_ (I_ (l_ D5 hr (by rfl) (a_ (pv 0) c_)))
   (b_ (j_ (i:=1) cg_.nd rfl (Or.inl rfl) e_)
   (b_ (V_ PassesOwn.never rfl (H_ (by rfl) T.range (a_ (lenS T.len (by rfl) (ixt (pv 0) e_)) c_)) (p_ (i:=2) cg_.nd rfl (Or.inl rfl))
    (h_ (j_ (i:=1) cg_.nd rfl (Or.inl rfl) (n_ ad_ (pv 1) (ixt (pv 0) e_)))))
   (h_ (m_ (pv 1))))),?_⟩
  refine⟨_,rfl,g,a,c,b,ps,ws,rfl,G,fun H1 s1=>?_⟩
  have G1:=G.keep s1
  refine⟨_,rfl,_,_,_,_,rfl,rfl,SqT.of G1.tp,rfl,⟨c,_,rfl,.inl (SqL.of G1.hw),_,rfl,(by rw[List.length_map,ok.wl];lia),(by rw[List.length_map,ok.wl];lia),?_⟩⟩
  have en:((ws.map V.int).length:Int).toNat=ps.sum:=by rw[List.length_map,ok.wl];lia
  rw[en]
  refine Z_ (n:=ps.sum) (fun i σ H2=>H2=H1/\∃v,σ=[some (.ref g),some (.int ((b ^ i:Nat):Int)),v]) ⟨rfl,none,rfl⟩ ?_ ?_
  ·rintro i σ H2 hi ⟨rfl,v,rfl⟩
   refine⟨_,rfl,_,rfl,_,_,_,_,rfl,rfl,SqT.of G1.tp,rfl,⟨_,_,rfl,rfl,.inr ⟨by have:=ok.b16;lia,by have:=ok.b16;lia⟩,rfl,some (.int (0+(i:Int))),?_⟩⟩
   rw[Nat.pow_succ]
   push_cast
   rfl
  ·rintro σ H2 ⟨rfl,v,rfl⟩
   exact⟨_,rfl,k _ s1⟩
theorem fI_:FnScope ["frame","thing"] ["frame","thing"] (g_ bP_):=⟨rfl,rfl,rfl,by decide +kernel,rfl,by decide +kernel,by decide +kernel⟩
theorem fa_{f:Addr}{fd:FuncData}(F:Fun K "need_number" "need_number" bP_ f fd)(D2:Def P w K mg base 2 "is_between" ["thing","least","greatest"] bH_)(D6:Def P w K mg base 6 "how_many" ["frame"] bi_) :
  FnOk P w K mg base CX0 7 f fd ["frame","thing"] bh_:=by
 refine F.ok fI_ (fun vs H Q E h=>?_) (fun cdv A outer s H vs Q E hr h=>?_)
 ·obtain⟨g,a,c,b,ps,ws,n,rfl,_⟩:=h;rfl
 ·obtain⟨g,a,c,b,ps,ws,n,rfl,G,hn,k⟩:=h
  refine⟨_,h_ (F_ (al_ (ag_ (l_ D2 hr.mo (by rfl) (a_ (pv 1) (a_ e_ (a_ (n_ W_ (l_ D6 hr (by rfl) (a_ (pv 0) c_)) e_) c_)))))) Q_ q_),?_⟩
  refine⟨_,rfl,_,rfl,g,a,c,b,ps,ws,rfl,G,fun H1 s1=>⟨_,_,rfl,rfl,.int n,0,_,rfl,.int _,_,rfl,?_⟩⟩
  have e:betw (.int (n:Int)) 0 (((b ^ ps.sum:Nat):Int)-1)=true:=by
   simp only[betw,Bool.and_eq_true,decide_eq_true_eq]
   lia
  rw[e]
  exact iteF (k H1 s1)
theorem as_:FnScope ["frame","n","figures","rest","place"] ["frame","n"] (g_ cE_):=⟨rfl,rfl,rfl,by decide +kernel,rfl,by decide +kernel,by decide +kernel⟩
theorem gd_{f:Addr}{fd:FuncData}(F:Fun K "figures_of" "figures_of" cE_ f fd)(T:Txt mg)(D5:Def P w K mg base 5 "need_frame" ["thing"] K_)(D7:Def P w K mg base 7 "need_number" ["frame","thing"] bh_) :
  FnOk P w K mg base CX0 8 f fd ["frame","n"] cc_:=by
 refine F.ok as_ (fun vs H Q E h=>?_) (fun cdv A outer s H vs Q E hr h=>?_)
 ·obtain⟨g,a,c,b,ps,ws,n,rfl,_⟩:=h;rfl
 ·obtain⟨g,a,c,b,ps,ws,n,rfl,G,hn,k⟩:=h
  have ok:=G.ok
  have hsum:=ok.sum
  have b2:=ok.b2
  have b16:=ok.b16
  refine⟨_,b_ (I_ (l_ D5 hr.mo (by rfl) (a_ (pv 0) c_)))
   (b_ (I_ (l_ D7 hr (by rfl) (a_ (pv 0) (a_ (pv 1) c_))))
   (b_ (j_ (i:=2) as_.nd rfl (Or.inl rfl) (A_ c_))
   (b_ (j_ (i:=3) as_.nd rfl (Or.inl rfl) (pv 1))
   (b_ (V_ PassesOwn.never rfl (H_ (by rfl) T.range (a_ (lenS T.len (by rfl) (ixt (pv 0) e_)) c_)) (p_ (i:=4) as_.nd rfl (Or.inl rfl))
    (b_ (I_ (fS_ PySem.F.plainAttrs_list PySem.F.slot_list_append PySem.F.type_list_append ah_ (pv 2) (a_ (n_ bI_ (pv 3) (ixt (pv 0) e_)) c_)))
    (h_ (j_ (i:=3) as_.nd rfl (Or.inl rfl) (n_ eZ_ (pv 3) (ixt (pv 0) e_))))))
   (h_ (m_ (pd_ rfl T.list T.rev (by rfl) (by rfl) (pv 2)))))))),?_⟩
  refine⟨_,rfl,g,a,c,b,ps,ws,rfl,G,fun H1 s1=>?_⟩
  have G1:=G.keep s1
  refine⟨_,rfl,_,rfl,g,a,c,b,ps,ws,n,rfl,G1,hn,fun H2 s2=>?_⟩
  have G2:=G1.keep s2
  refine⟨sz (by decide),fun l hl=>?_⟩
  have s3:Same H2 (upd H2 l (.lst [])):=f_ hl
  have G3:=G2.keep s3
  refine⟨_,rfl,_,rfl,_,_,_,_,rfl,rfl,SqT.of G3.tp,rfl,⟨c,_,rfl,.inl (SqL.of G3.hw),_,rfl,(by rw[List.length_map,ok.wl];lia),(by rw[List.length_map,ok.wl];lia),?_⟩⟩
  have en:((ws.map V.int).length:Int).toNat=ps.sum:=by rw[List.length_map,ok.wl];lia
  rw[en]
  refine Z_ (n:=ps.sum) (fun i σ H4=>∃v,σ=[some (.ref g),some (.int n),some (.ref l),some (.int ((n / b ^ i:Nat):Int)),v]/\Same H2 H4/\H4 l=some (.lst (natV (Ma.ups b n i)))) ⟨none,(by rw[Nat.pow_zero,Nat.div_one];rfl),s3,d_⟩ ?_ ?_
  ·rintro i σ H4 hi ⟨v,rfl,s4,h4⟩
   have G4:=G2.keep s4
   refine⟨_,rfl,.inl ⟨rfl,_,SqL.of h4⟩,_,rfl,_,rfl,_,_,_,_,rfl,rfl,SqT.of G4.tp,rfl,⟨_,_,rfl,rfl,(by show(0:Int)<b;lia),l,_,_,rfl,rfl,h4,szl (by simp[natV,Ma.oJ_];lia),?_⟩⟩
   have s5:Same H2 (upd H4 l (.lst (natV (Ma.ups b n i)++[V.int (((n / b ^ i:Nat):Int) % (b:Int))]))):=D_ s4 hl
   refine⟨_,rfl,_,rfl,_,_,_,_,rfl,rfl,SqT.of (G2.keep s5).tp,rfl,⟨_,_,rfl,rfl,⟨by show(0:Int)<b;lia,by show(b:Int)<1073741824;lia⟩,some (.int (0+(i:Int))),?_,s5,?_⟩⟩
   ·rw[<-Ma.rm_]
    push_cast
    rfl
   ·rw[d_,Ma.mv_]
    simp[natV]
  ·rintro σ H4 ⟨v,rfl,s4,h4⟩
   refine⟨_,rfl,l,_,rfl,SqL.of h4,fun r hr'=>?_⟩
   refine k r _ ?_ ((s1.trans s2).trans (D_ s4 (s4.free hr'))) ?_
   ·exact(s1.trans (s2.trans s4)).free hr'
   ·rw[d_,<-Ma.oI_]
    simp[natV]
end
abbrev ev_(H:Hp)(qs:List Addr)(rows:List (List Int)):Prop:=Paired (fun q row=>H q=some (.lst (row.map V.int))) qs rows
theorem ev_.keepOn{H H':Hp}{qs:List Addr}{rows:List (List Int)}(s:∀b∈qs,∀row:List Int,H b=some (.lst (row.map V.int))->H' b=some (.lst (row.map V.int)))(h:ev_ H qs rows):ev_ H' qs rows:=by
 induction h with
 | nil=>exact .nil
 | cons h _ ih=>exact .cons (s _ (by simp) _ h) (ih fun b hb=>s b (List.mem_cons_of_mem _ hb))
theorem dd_{F:Addr->List Int->Prop}{qs:List Addr}{rows:List (List Int)}{i:Nat}{q:Addr}(h:Paired F qs rows)(e:qs[i]?=some q):∃row,rows[i]?=some row/\F q row:=Paired.at h e
def spCut:Sp:=fun vs H Q _=>∃f a c b ps ws,∃(r:Addr) (xs:List Int),vs=[.ref f,.ref r]/\FrAt H f a c b ps ws/\H r=some (.lst (xs.map V.int))/\
 ∀p qs H',Same H H'->H' p=some (.lst (qs.map V.ref))->ev_ H' qs (Ma.cuts ps xs)->Q (.ref p) H'
def ku_:Sp:=fun vs H Q _=>∃f a c b ps ws,∃n:Nat,vs=[.ref f,.int n]/\FrAt H f a c b ps ws/\n<b ^ ps.sum/\
 ∀r H',H r=none->Same H H'->H' r=some (.lst ((Ma.psums ps (Ma.wts b n ps.sum ws)).map V.int))->Q (.ref r) H'
theorem me_{xs:List V}{i k:Nat}:cutV xs (some (i:Int)) (some ((i:Int)+(k:Int)))=(xs.drop i).take k:=by
 have e:(i:Int)+(k:Int)=((i+k:Nat):Int):=by lia
 unfold cutV
 rw[e,HT.eN_,HT.eN_]
 rcases Nat.le_total i xs.length with h | h
 ·rw[Nat.min_eq_left h]
  rcases Nat.le_total (i+k) xs.length with h2 | h2
  ·rw[Nat.min_eq_left h2,Nat.add_sub_cancel_left]
  ·rw[Nat.min_eq_right h2,List.take_of_length_le (by rw[List.length_drop];lia),List.take_of_length_le (by rw[List.length_drop];lia)]
 ·rw[Nat.min_eq_right h,List.drop_of_length_le (Nat.le_refl _),List.drop_of_length_le h]
  simp
section
variable{P:Program}{w:World}{K:PySem.W.Frag}{mg:Str->Option Value}{base:Heap}
theorem scCut:FnScope ["frame","row","pieces","start","length"] ["frame","row"] (g_ sCut):=⟨rfl,rfl,rfl,by decide +kernel,rfl,by decide +kernel,by decide +kernel⟩
theorem qF_{f:Addr}{fd:FuncData}(F:Fun K "cut_by_parts" "cut_by_parts" sCut f fd):FnOk P w K mg base CX0 1 f fd ["frame","row"] spCut:=by
 refine F.ok scCut (fun vs H Q E h=>?_) (fun cdv A outer s H vs Q E hr h=>?_)
 ·obtain⟨g,a,c,b,ps,ws,r,xs,rfl,_⟩:=h;rfl
 ·obtain⟨g,a,c,b,ps,ws,r,xs,rfl,G,hrow,k⟩:=h
  have nd:=scCut.nd
  have l4:=G.ok.l4
  refine⟨_,b_ (j_ (i:=2) nd rfl (Or.inl rfl) (A_ c_))
   (b_ (j_ (i:=3) nd rfl (Or.inl rfl) e_)
   (b_ (V_ PassesOwn.never rfl (O_ (ixt (pv 0) e_)) (p_ (i:=4) nd rfl (Or.inl rfl))
    (b_ (I_ (fS_ PySem.F.plainAttrs_list PySem.F.slot_list_append PySem.F.type_list_append ah_ (pv 2) (a_ (bB_ dt_ (pv 1) (br_ (pv 3)) (br_ (n_ C_ (pv 3) (pv 4)))) c_)))
    (h_ (j_ (i:=3) nd rfl (Or.inl rfl) (n_ C_ (pv 3) (pv 4))))))
   (h_ (m_ (pv 2))))),?_⟩
  refine⟨sz (by decide),fun p hp=>?_⟩
  have s1:Same H (upd H p (.lst [])):=f_ hp
  have G1:=G.keep s1
  refine⟨_,rfl,_,_,_,_,rfl,rfl,SqT.of G1.tp,rfl,a,rfl,⟨_,SqL.of G1.hp⟩,bc_ (K:=K) (a:=a) (xs:=natV ps) (fun i σ H2=>∃(qs:List Addr) (v4:Option V),σ=[some (.ref g),some (.ref r),some (.ref p),some (.int (((ps.take i).sum:Nat):Int)),v4]/\
   Same H H2/\H2 p=some (.lst (qs.map V.ref))/\qs.length=i/\ev_ H2 qs ((Ma.cuts ps xs).take i)) ⟨[],none,rfl,s1,d_,rfl,.nil⟩ (fun i σ H2 _ h=>by obtain⟨_,_,_,s2,_⟩:=h;exact SqL.of (s2 _ _ G.hp)) ?_ ?_⟩
  ·rintro i x σ H2 hx ⟨qs,v4,rfl,s2,hp2,hl2,rows⟩
   have hi:i<ps.length:=by
    have:=(List.getElem?_eq_some_iff.mp hx).1
    simpa [natV] using this
   have e:ps[i]?=some ps[i]:=by simp[hi]
   have ex:x=V.int ((ps[i]:Nat):Int):=by
    have:(natV ps)[i]?=some (V.int ((ps[i]:Nat):Int)):=by simp[natV,hi]
    rw[this] at hx
    exact(Option.some.inj hx).symm
   subst ex
   have pr:p≠r:=Ne.symm (k_ hrow hp)
   refine⟨_,rfl,.inl ⟨rfl,_,SqL.of hp2⟩,_,rfl,_,rfl,_,rfl,_,rfl,_,rfl,_,_,rfl,rfl,_,rfl,r,_,rfl,SqL.of (s2 _ _ hrow),fun q hq=>?_⟩
   have pq:p≠q:=k_ hp2 hq
   refine⟨p,_,_,rfl,rfl,(by rw[i_ pq];exact hp2),szl (by rw[List.length_map];lia),?_⟩
   refine⟨_,rfl,_,rfl,_,_,rfl,rfl,qs++[q],some (.int ((ps[i]:Nat):Int)),?_,D_ (D_ s2 (s2.free hq)) hp,?_,by simp[hl2],?_⟩
   ·rw[List.take_add_one,e,List.sum_append]
    show[some (V.ref g),some (.ref r),some (.ref p),some (.int (((ps.take i).sum:Nat)+((ps[i]:Nat):Int))),_]=_
    simp
   ·rw[d_];simp
   ·rw[List.take_add_one,Ma.dj_ ps xs i ps[i] e]
    refine Paired.snoc (ev_.keepOn (H:=H2) (fun bb hb row z=>?_) rows) ?_
    ·have bp:bb≠p:=pu_ z hp2 (by
      intro e
      have e':row.map V.int=qs.map V.ref:=by injection e
      have m1:V.ref bb∈row.map V.int:=by rw[e'];exact List.mem_map.mpr ⟨bb,hb,rfl⟩
      obtain⟨_,_,m2⟩:=List.mem_map.mp m1
      cases m2)
     rw[i_ bp,i_ (k_ z hq)]
     exact z
    ·rw[i_ pq.symm,d_,me_,<-List.map_drop,<-List.map_take]
  ·rintro σ H2 ⟨qs,v4,rfl,s2,hp2,hl2,rows⟩
   refine⟨_,rfl,k p qs H2 s2 hp2 ?_⟩
   have e:(natV ps).length=(Ma.cuts ps xs).length:=by rw[Ma.M_];simp[natV]
   rw[e,List.take_length] at rows
   exact rows
end
theorem jT_{X:Cx}(K:PySem.W.Frag)(hK:X.K=K)(hc:X.calm=true):CallR X (.builtin "sum") (fun xs H Q=>∃(p:Addr) (ns:List Int),xs=[.ref p]/\SqL K H p (ns.map V.int)/\Q (.int ns.sum) H):=by
 subst hK
 exact cs_ hc
section
variable{P:Program}{w:World}{K:PySem.W.Frag}{mg:Str->Option Value}{base:Heap}
theorem ee_:FnScope ["frame","n","figures","weighted"] ["frame","n"] (g_ aM_):=⟨rfl,rfl,rfl,by decide +kernel,rfl,by decide +kernel,by decide +kernel⟩
theorem hs_{f:Addr}{fd:FuncData}(F:Fun K "part_sums" "part_sums" aM_ f fd)(T:Txt mg)(D8:Def P w K mg base 8 "figures_of" ["frame","n"] cc_)(DC:Def P w K mg base 1 "cut_by_parts" ["frame","row"] spCut):FnOk P w K mg base CX0 9 f fd ["frame","n"] ku_:=by
 refine F.ok ee_ (fun vs H Q E h=>?_) (fun cdv A outer s H vs Q E hr h=>?_)
 ·obtain⟨g,a,c,b,ps,ws,n,rfl,_⟩:=h;rfl
 ·obtain⟨g,a,c,b,ps,ws,n,rfl,G,hn,k⟩:=h
  have nd:=ee_.nd
  have ok:=G.ok
  have hsum:=ok.sum
  have b2:=ok.b2
  have b16:=ok.b16
  have l4:=ok.l4
  have nd2:List.Nodup (["figure","weight"]:List Str):=by decide +kernel
  have hsmall:=Ma.jW_ (n:=n) (L:=ps.sum) (by lia:0<b) b16 ok.wr
  refine⟨_,b_ (j_ (i:=2) nd rfl (Or.inl rfl) (l_ D8 hr (by rfl) (a_ (pv 0) (a_ (pv 1) c_))))
   (b_ (hj_ (i:=3) (N:=["figure","weight"]) (k:=2) (fr:=[]) nd rfl (Or.inl rfl) (cmpS (sc:=g_ aM_) (NX:=["frame","n","figures","weighted"]) (k:=2) (fr:=[]) rfl rfl (by decide +kernel))
    (cmpF (sc:=g_ aM_) (NX:=["frame","n","figures","weighted"]) rfl (by decide +kernel)) rfl (kV_ (by rfl) T.zip (pv 2) (ixt (pv 0) e_))
    (fun cl C s H fp=>eX_ K rfl rfl (z_ (p_ (i:=0) nd2 rfl (Or.inl rfl)) (z_ (p_ (i:=1) nd2 rfl (Or.inl rfl)) aY_))) iW_ (fun cl C s H fp=>aD_) (fun cl C s H fp=>n_ ad_ (pv 0) (pv 1)) (by rfl))
   (h_ (m_ (bt_ (g_ aM_) ["frame","n","figures","weighted"] [] [] rfl (O_ (l_ DC hr.mo (by rfl) (a_ (pv 0) (a_ (pv 3) c_)))) (fun cl C s H fp=>aD_)
    (fun cl C s H fp=>o_ (jT_ K rfl rfl) (by rfl) T.sum boot_sum (a_ (pv 0) c_)) (by decide +kernel))))),?_⟩
  refine⟨_,rfl,_,rfl,g,a,c,b,ps,ws,n,rfl,G,hn,fun r H1 hr1 s1 h1=>?_⟩
  have G1:=G.keep s1
  refine⟨_,rfl,_,rfl,_,_,_,_,rfl,rfl,SqT.of G1.tp,rfl,r,c,rfl,rfl,⟨_,SqL.of h1⟩,⟨_,SqL.of G1.hw⟩,jb_ (K:=K) (a:=r) (b:=c) (xs:=natV (Ma.dws b n ps.sum ps.sum)) (ys:=ws.map V.int)
   (fun i zs H'=>zs=((Ma.wts b n ps.sum ws).take i).map V.int/\Same H1 H') (by simp[natV,Ma.E_,ok.wl]) ⟨by simp,Same.refl _⟩ (fun i zs H' _ p=>⟨SqL.of (p.2 _ _ h1),SqL.of (p.2 _ _ G1.hw)⟩)
   (fun i zs H' hi p=>szl (by rw[p.1,List.length_map,List.length_take];simp[natV,Ma.E_] at hi;lia)) ?_ ?_⟩
  ·rintro i x y zs H' t hx hy ⟨rfl,s2⟩ ht
   obtain⟨d,hd,rfl⟩:∃d:Nat,(Ma.dws b n ps.sum ps.sum)[i]?=some d/\x=.int d:=by
    rw[natV,List.getElem?_map] at hx
    cases e:(Ma.dws b n ps.sum ps.sum)[i]? with
    | none=>rw[e] at hx;cases hx
    | some d=>rw[e] at hx;exact⟨d,rfl,(Option.some.inj hx).symm⟩
   obtain⟨x,hw,rfl⟩:∃x:Int,ws[i]?=some x/\y=.int x:=by
    rw[List.getElem?_map] at hy
    cases e:ws[i]? with
    | none=>rw[e] at hy;cases hy
    | some d=>rw[e] at hy;exact⟨d,rfl,(Option.some.inj hy).symm⟩
   have hx9:=ok.wr x (List.mem_of_getElem? hw)
   refine⟨t,_,rfl,SqT.of d_,rfl,_,_,rfl,_,_,rfl,rfl,_,rfl,_,rfl,_,_,rfl,rfl,.inr ⟨by lia,by lia⟩,?_,D_ s2 (s2.free ht)⟩
   rw[List.take_add_one,Ma.oC_ hd hw]
   simp
  rintro zs H' ⟨rfl,s2⟩ wl hwl
  have e1:(natV (Ma.dws b n ps.sum ps.sum)).length=(Ma.wts b n ps.sum ws).length:=by rw[Ma.gF_ _ _ _ _ ok.wl];simp[natV,Ma.E_]
  rw[e1,List.take_length]
  have s3:Same H1 (upd H' wl (.lst ((Ma.wts b n ps.sum ws).map V.int))):=D_ s2 (s2.free hwl)
  have G3:=G1.keep s3
  refine⟨_,rfl,_,rfl,g,a,c,b,ps,ws,wl,Ma.wts b n ps.sum ws,rfl,G3,d_,fun pl qs H4 s4 hpl rows=>⟨pl,rfl,⟨_,SqL.of hpl⟩,ab_ (K:=K) (a:=pl) (xs:=qs.map V.ref)
   (fun i ys H5=>ys=((Ma.psums ps (Ma.wts b n ps.sum ws)).take i).map V.int/\H4=H5) ⟨by simp,rfl⟩ (fun i ys H5 _ p=>by rw[<-p.2];exact SqL.of hpl) ?_ ?_⟩⟩
  ·rintro i x ys H5 hx ⟨rfl,rfl⟩
   obtain⟨q,hq,rfl⟩:∃q,qs[i]?=some q/\x=.ref q:=by
    rw[List.getElem?_map] at hx
    cases e:qs[i]? with
    | none=>rw[e] at hx;cases hx
    | some d=>rw[e] at hx;exact⟨d,rfl,(Option.some.inj hx).symm⟩
   obtain⟨row,hrow,hq4⟩:=dd_ rows hq
   have hm:=List.mem_of_getElem? hrow
   have hlen:=Paired.length rows
   have hil:=(List.getElem?_eq_some_iff.mp hq).1
   rw[Ma.M_] at hlen
   refine⟨szl (by rw[List.length_map,List.length_take];lia),_,rfl,q,row,rfl,SqL.of hq4,?_,rfl⟩
   ·have e:(Ma.psums ps (Ma.wts b n ps.sum ws))[i]?=some row.sum:=by unfold Ma.psums;rw[List.getElem?_map,hrow];rfl
    rw[List.take_add_one,e]
    simp
  ·rintro ys H5 ⟨rfl,rfl⟩ r2 hr2
   have hlen:=Paired.length rows
   have e:(qs.map V.ref).length=(Ma.psums ps (Ma.wts b n ps.sum ws)).length:=by rw[Ma.fO_,List.length_map,hlen,Ma.M_]
   rw[e,List.take_length]
   have S:=(s1.trans s3).trans s4
   exact k r2 _ (S.free hr2) (D_ S (S.free hr2)) d_
end
def spread(zs:List Int):Int:=Ma.maxL zs-Ma.minL zs
abbrev ay_(b n:Nat)(ps:List Nat)(ws:List Int):List Int:=Ma.psums ps (Ma.wts b n ps.sum ws)
theorem ez_{b n:Nat}{ps:List Nat}{ws:List Int}(ok:FrOk b ps ws):0<(ay_ b n ps ws).length:=by
 have:=ok.l2
 rw[Ma.fO_];omega
def eH_:Sp:=fun vs H Q _=>∃f a c b ps ws,∃n:Nat,vs=[.ref f,.int n]/\FrAt H f a c b ps ws/\n<b ^ ps.sum/\∀H',Same H H'->Q (.int (spread (ay_ b n ps ws))) H'
def kw_:Sp:=fun vs H Q _=>∃f a c b ps ws,∃n:Nat,vs=[.ref f,.int n]/\FrAt H f a c b ps ws/\n<b ^ ps.sum/\∀H',Same H H'->Q (.bl (decide (spread (ay_ b n ps ws)=0))) H'
section
variable{P:Program}{w:World}{K:PySem.W.Frag}{mg:Str->Option Value}{base:Heap}
theorem eh_:FnScope ["frame","n","totals"] ["frame","n"] (g_ dC_):=⟨rfl,rfl,rfl,by decide +kernel,rfl,by decide +kernel,by decide +kernel⟩
theorem li_{f:Addr}{fd:FuncData}(F:Fun K "misses_by" "misses_by" dC_ f fd)(T:Txt mg)(DP:Def P w K mg base 9 "part_sums" ["frame","n"] ku_):FnOk P w K mg base CX0 10 f fd ["frame","n"] eH_:=by
 refine F.ok eh_ (fun vs H Q E h=>?_) (fun cdv A outer s H vs Q E hr h=>?_)
 ·obtain⟨g,a,c,b,ps,ws,n,rfl,_⟩:=h;rfl
 ·obtain⟨g,a,c,b,ps,ws,n,rfl,G,hn,k⟩:=h
  refine⟨_,b_ (j_ (i:=2) eh_.nd rfl (Or.inl rfl) (l_ DP hr (by rfl) (a_ (pv 0) (a_ (pv 1) c_))))
   (h_ (m_ (n_ W_ (o_ (dQ_ rfl) (by rfl) T.max boot_max (a_ (pv 2) c_)) (o_ (ct_ rfl) (by rfl) T.min boot_min (a_ (pv 2) c_))))),?_⟩
  refine⟨_,rfl,_,rfl,g,a,c,b,ps,ws,n,rfl,G,hn,fun r H1 _ s1 h1=>?_⟩
  exact⟨_,rfl,r,_,rfl,SqL.of h1,ez_ G.ok,_,rfl,r,_,rfl,SqL.of h1,ez_ G.ok,_,_,rfl,rfl,k H1 s1⟩
theorem mE_:FnScope ["frame","n"] ["frame","n"] (g_ hd_):=⟨rfl,rfl,rfl,by decide +kernel,rfl,by decide +kernel,by decide +kernel⟩
theorem pk_{f:Addr}{fd:FuncData}(F:Fun K "is_even" "is_even" hd_ f fd)(DM:Def P w K mg base 10 "misses_by" ["frame","n"] eH_):FnOk P w K mg base CX0 11 f fd ["frame","n"] kw_:=by
 refine F.ok mE_ (fun vs H Q E h=>?_) (fun cdv A outer s H vs Q E hr h=>?_)
 ·obtain⟨g,a,c,b,ps,ws,n,rfl,_⟩:=h;rfl
 ·obtain⟨g,a,c,b,ps,ws,n,rfl,G,hn,k⟩:=h
  refine⟨_,h_ (m_ (bU_ cn_ (l_ DM hr (by rfl) (a_ (pv 0) (a_ (pv 1) c_))) e_ (nomark _))),?_⟩
  refine⟨_,rfl,_,rfl,g,a,c,b,ps,ws,n,rfl,G,hn,fun H1 s1=>⟨rfl,?_⟩⟩
  have e:decide (V.int (spread (ay_ b n ps ws))=V.int 0)=decide (spread (ay_ b n ps ws)=0):=by
   by_cases h:spread (ay_ b n ps ws)=0
   ·rw[h];simp
   ·rw[decide_eq_false h,decide_eq_false (fun z=>h (by injection z))]
  rw[e]
  exact k H1 s1
end
end Hv
namespace L2
open PySem PySem.Spec PyProof.Rows
section
variable{X:Cx}{e st:Expr}{te ts:TE}{pos p2:Pos}{tg:Expr}
end
end L2
namespace Hv
open PySem L2
theorem on_{c A B:Prop}[Decidable c](h1:A)(h2:B):if c then A else B:=ite2 (fun _=>h1) fun _=>h2
theorem lE_{c A:Prop}[Decidable c]{nx:St->Hp->Prop}{σ:St}{H:Hp}(Good:St->Hp->Prop)(h:∀ σ H,Good σ H->nx σ H)(hA:(∀ σ H,Good σ H->nx σ H)->A)(hB:Good σ H):if c then A else nx σ H:=on_ (hA h) (h _ _ hB)
theorem ot_{xs:List V}{k:Nat}:cutV xs none (some (k:Int))=xs.take k:=by
 unfold cutV
 rw[HT.ir_,HT.eN_,List.drop_zero,Nat.sub_zero]
 rcases Nat.le_total k xs.length with h | h
 ·rw[Nat.min_eq_left h]
 ·rw[Nat.min_eq_right h,List.take_of_length_le (Nat.le_refl _),List.take_of_length_le h]
theorem cK_{ns:List Int}{i:Int}{Pr:Int->Prop}(h0:0<=i)(h1:i<ns.length)(h:∀n∈ns,Pr n):∃n,atI (ns.map V.int) i=some (.int n)/\Pr n:=by
 obtain⟨v,e,n,rfl,hn⟩:=ov_ (xs:=ns.map V.int) (Pr:=fun v=>∃n,v=.int n/\Pr n) h0 (by rw[List.length_map];exact h1) (fun x hx=>by
  obtain⟨n,hn,rfl⟩:=List.mem_map.mp hx
  exact⟨n,rfl,h n hn⟩)
 exact⟨n,e,hn⟩
theorem oT_{n x:Nat}:(List.replicate n [V.int (x:Int)]).flatten=natV (List.replicate n x):=by
 induction n with
 | zero=>rfl
 | succ n ih=>rw[List.replicate_succ,List.flatten_cons,ih,List.replicate_succ];rfl
theorem nf_{ps:List Nat}(h:∀p∈ps,1<=p/\p<=6):∀n∈ps.map fun(p:Nat)=>(p:Int),-1000000000<=n/\n<=1000000000:=fun n hn=>by
 obtain⟨p,hp,rfl⟩:=List.mem_map.mp hn
 have:=h p hp
 lia
theorem b01(k:Bool):CMul j (if k=true then 1 else 0):=.inr (by cases k <;> decide)
def Store(H:Hp)(s:Addr):Prop:=∃g c k:Int,H s=some (.lst [.int g,.int c,.int k])
theorem Store.keep{H H':Hp}{s:Addr}(h:Store H s)(t:Same H H'):Store H' s:=let ⟨g,c,k,e⟩:=h;⟨g,c,k,t _ _ e⟩
theorem Store.off{H:Hp}{s l:Addr}(h:Store H s)(e:H l=none):l≠s:=fun z=>by
 obtain⟨g,c,k,q⟩:=h
 rw[z,q] at e;cases e
theorem Store.off1{H:Hp}{s l:Addr}(h:Store H s)(e:H l=none):l∉[s]:=fun z=>h.off e (by simpa using z)
theorem Store.upd{H:Hp}{s l:Addr}{o:HO}(h:Store H s)(n:l≠s):Store (L2.upd H l o) s:=let ⟨g,c,k,e⟩:=h;⟨g,c,k,by rw[i_ n.symm];exact e⟩
def ky_(K:PySem.W.Frag):Sp:=fun vs H Q _=>∃(a:Addr) (ns:List Int) (k:Nat),vs=[.ref a,.int k]/\SqL K H a (ns.map V.int)/\k<=1000/\∀c:Int,Q (.int c) H
def gO_:Sp:=fun vs H Q _=>∃c:Int,vs=[.int c]/\∀s H',H s=none->Same H H'->Store H' s->Q (.ref s) H'
def bg_:Sp:=fun vs H Q _=>∃(s:Addr) (m:Int),vs=[.ref s,.int m]/\Store H s/\0<m/\m<1073741824/\∀(r:Int) (H':Hp),0<=r->r<m->Store H' s->Kp [s] H H'->Q (.int r) H'
def gR_:Sp:=fun vs H Q _=>∃(s:Addr) (L:Int),vs=[.ref s,.int L]/\Store H s/\1<=L/\L<=6/\
 ∀f a c b ps ws H',Store H' s->Kp [s] H H'->FrAt H' f a c b ps ws->H f=none->H a=none->H c=none->Q (.ref f) H'
section
variable{P:Program}{w:World}{K:PySem.W.Frag}{mg:Str->Option Value}{base:Heap}
theorem qn_:FnScope ["script","k"] ["script","k"] (g_ sCell):=⟨rfl,rfl,rfl,by decide +kernel,rfl,by decide +kernel,by decide +kernel⟩
theorem pm_{f:Addr}{fd:FuncData}(F:Fun K "_law_cell" "_law_cell" sCell f fd)(T:Txt mg):FnOk P w K mg base CX0 1 f fd ["script","k"] (ky_ K):=by
 refine F.ok qn_ (fun vs H Q E h=>?_) (fun cdv A outer s H vs Q E hr h=>?_)
 ·obtain⟨a,ns,j,rfl,_⟩:=h;rfl
 ·obtain⟨a,ns,j,rfl,hS,hj,k⟩:=h
  refine⟨_,b_ (F_ (s_ lb_ (pv 1) (lenS T.len (by rfl) (pv 0)) (nomark _)) (h_ (m_ (ixl (pv 0) (pv 1)))) q_)
   (h_ (m_ (n_ C_ (n_ C_ (n_ ad_ (n_ ad_ e_ (pv 1)) (pv 1)) (n_ ad_ e_ (pv 1))) e_))),?_⟩
  refine⟨_,rfl,_,rfl,a,_,rfl,.inl hS,_,_,rfl,rfl,_,rfl,ite2 (fun h=>?_) (fun _=>?_)⟩
  ·have h':j<ns.length:=by
    have:=of_decide_eq_true h
    rw[List.length_map] at this
    lia
   exact⟨_,rfl,_,rfl,a,_,_,_,rfl,rfl,hS,aJ_ (v:=V.int ns[j]) (by simp[h']),k _⟩
  ·exact⟨_,rfl,_,_,rfl,rfl,.inl ⟨by decide,by decide⟩,_,rfl,_,_,rfl,rfl,.inr ⟨by lia,by lia⟩,_,rfl,_,_,rfl,rfl,.inl ⟨by decide,by decide⟩,_,_,rfl,rfl,_,_,rfl,rfl,k _⟩
theorem gW_:FnScope ["cell","great"] ["cell"] (g_ kK_):=⟨rfl,rfl,rfl,by decide +kernel,rfl,by decide +kernel,by decide +kernel⟩
theorem mU_{f:Addr}{fd:FuncData}(F:Fun K "_law_store" "_law_store" kK_ f fd):FnOk P w K mg base CX0 1 f fd ["cell"] gO_:=by
 refine F.ok gW_ (fun vs H Q E h=>?_) (fun cdv A outer s H vs Q E hr h=>?_)
 ·obtain⟨c,rfl,_⟩:=h;rfl
 ·obtain⟨c,rfl,k⟩:=h
  refine⟨_,b_ (j_ (i:=1) gW_.nd rfl (Or.inl rfl) e_)
   (b_ (F_ (s_ qC_ (pv 0) (n_ el_ e_ e_) (nomark _)) (h_ (j_ (i:=1) gW_.nd rfl (Or.inl rfl) (pv 0))) q_)
   (h_ (m_ (A_ (a_ (pv 1) (a_ (n_ bI_ (pv 0) e_) (a_ e_ c_))))))),?_⟩
  refine⟨_,rfl,_,_,rfl,rfl,⟨by decide,by decide,by decide⟩,_,_,rfl,rfl,_,rfl,?_⟩
  refine lE_ (fun σ H'=>H=H'/\∃g:Int,σ=[some (.int c),some (.int g)]) ?_ (fun hT=>⟨_,rfl,hT _ _ ⟨rfl,_,rfl⟩⟩) ⟨rfl,_,rfl⟩
  rintro σ H' ⟨rfl,g,rfl⟩
  exact⟨_,rfl,_,rfl,_,_,rfl,rfl,(by show(0:Int)<2147483629;decide),sz (by simp),fun l hl=>k l _ hl (f_ hl) ⟨_,_,_,d_⟩⟩
theorem nR_:FnScope ["store","many","told","one"] ["store","many"] (g_ sTake):=⟨rfl,rfl,rfl,by decide +kernel,rfl,by decide +kernel,by decide +kernel⟩
theorem ph_{f:Addr}{fd:FuncData}(F:Fun K "_law_take" "_law_take" sTake f fd):FnOk P w K mg base CX0 1 f fd ["store","many"] bg_:=by
 refine F.ok nR_ (fun vs H Q E h=>?_) (fun cdv A outer s H vs Q E hr h=>?_)
 ·obtain⟨s,m,rfl,_⟩:=h;rfl
 ·obtain⟨q,m,rfl,⟨g,c,j,hc⟩,m0,m1,k⟩:=h
  have nd:=nR_.nd
  refine⟨_,b_ (F_ (s_ jr_ (ixl (pv 0) e_) e_ (nomark _))
    (b_ (j_ (i:=2) nd rfl (Or.inl rfl) (n_ bI_ (ixl (pv 0) e_) (pv 1)))
    (b_ (ch_ (n_ eZ_ (ixl (pv 0) e_) (pv 1)) (fQ_ (pv 0) e_ ce_))
    (h_ (m_ (pv 2))))) q_)
   (b_ (ch_ (n_ C_ (ixl (pv 0) e_) e_) (fQ_ (pv 0) e_ ce_))
   (b_ (j_ (i:=3) nd rfl (Or.inl rfl) (n_ bI_ (n_ ad_ (n_ C_ (ixl (pv 0) e_) (n_ ad_ e_ (ixl (pv 0) e_))) e_) e_))
   (b_ (j_ (i:=3) nd rfl (Or.inl rfl) (n_ bI_ (n_ ad_ (pv 3) (pv 3)) e_))
   (b_ (j_ (i:=3) nd rfl (Or.inl rfl) (n_ bI_ (n_ ad_ (n_ C_ (pv 3) (n_ ad_ e_ (ixl (pv 0) e_))) e_) e_))
   (h_ (m_ (n_ bI_ (n_ eZ_ (pv 3) e_) (pv 1)))))))),?_⟩
  have fin:∀(c' e' j':Int) (r:Int),0<=r->r<m->Q (.int r) (upd H q (.lst [.int c',.int e',.int j'])):=fun c' e' j' r r0 r1=>k r _ r0 r1 ⟨c',e',j',d_⟩ (dL_ Kp.refl (.inl (by simp)))
  refine⟨_,rfl,_,_,_,_,rfl,rfl,SqL.of hc,rfl,⟨_,_,rfl,rfl,_,rfl,on_ ?way1 ?way2⟩⟩
  case way1 =>
   refine⟨_,rfl,_,_,_,_,rfl,rfl,SqL.of hc,rfl,⟨_,rfl,_,_,rfl,rfl,m0,?_⟩⟩
   refine⟨_,rfl,_,_,_,_,rfl,rfl,SqL.of hc,rfl,⟨_,rfl,_,_,rfl,rfl,⟨m0,m1⟩,_,rfl,q,_,_,_,rfl,rfl,hc,rfl,?_⟩⟩
   exact⟨_,rfl,fin (g / m) c j (g % m) (Int.emod_nonneg _ (by lia)) (Int.emod_lt_of_pos _ m0)⟩
  case way2 =>
   refine⟨_,rfl,_,_,_,_,rfl,rfl,SqL.of hc,rfl,⟨_,_,rfl,rfl,_,rfl,q,_,_,_,rfl,rfl,hc,rfl,?_⟩⟩
   refine⟨_,rfl,_,_,_,_,rfl,rfl,SqL.of d_,rfl,⟨_,rfl,_,_,_,_,rfl,rfl,SqL.of d_,rfl,⟨_,_,rfl,rfl,.inl ⟨by decide,by decide⟩,_,_,rfl,rfl,_,_,rfl,rfl,.inr ⟨by decide,by decide⟩,_,_,rfl,rfl,(by show(0:Int)<2147483647;decide),?_⟩⟩⟩
   refine⟨_,rfl,_,rfl,_,_,rfl,rfl,.inl ⟨by lia,by lia⟩,_,_,rfl,rfl,(by show(0:Int)<2147483629;decide),?_⟩
   refine⟨_,rfl,_,rfl,_,_,_,_,rfl,rfl,SqL.of d_,rfl,⟨_,_,rfl,rfl,.inl ⟨by decide,by decide⟩,_,_,rfl,rfl,_,_,rfl,rfl,.inr ⟨by decide,by decide⟩,_,_,rfl,rfl,(by show(0:Int)<2147483587;decide),?_⟩⟩
   refine⟨_,rfl,_,_,rfl,rfl,⟨by decide,by decide⟩,_,rfl,_,_,rfl,rfl,m0,?_⟩
   exact fin g c (j+1) _ (Int.emod_nonneg _ (by lia)) (Int.emod_lt_of_pos _ m0)
theorem kG_:FnScope ["store","longest","base","parts","way","one","weights","k","any_one","some"] ["store","longest"] (g_ is_):=⟨rfl,rfl,rfl,by decide +kernel,rfl,by decide +kernel,by decide +kernel⟩
theorem mZ_{f:Addr}{fd:FuncData}(F:Fun K "_law_frame" "_law_frame" is_ f fd)(T:Txt mg)(D1:Def P w K mg base 1 "_law_take" ["store","many"] bg_):FnOk P w K mg base CX0 2 f fd ["store","longest"] gR_:=by
 refine F.ok kG_ (fun vs H Q E h=>?_) (fun cdv A outer s H vs Q E hr h=>?_)
 ·obtain⟨d,L,rfl,_⟩:=h;rfl
 ·obtain⟨d,L,rfl,D,L1,L6,k⟩:=h
  have nd:=kG_.nd
  refine⟨_,b_ (j_ (i:=2) nd rfl (Or.inl rfl) (ixl (A_ (a_ e_ (a_ e_ (a_ e_ (a_ e_ (a_ (n_ C_ e_ (l_ D1 hr (by rfl) (a_ (pv 0) (a_ e_ c_)))) c_)))))) (l_ D1 hr (by rfl) (a_ (pv 0) (a_ e_ c_)))))
   (b_ (eV_ (g_ is_) ["store","longest","base","parts","way","one","weights","k","any_one","some"] ["store","longest"] [0,1] (i:=3) nd rfl (Or.inl rfl) rfl
    (H_ (by rfl) T.range (a_ (ixl (A_ (a_ e_ (a_ e_ (a_ e_ (a_ e_ c_))))) (l_ D1 hr (by rfl) (a_ (pv 0) (a_ e_ c_)))) c_))
    (fun cl C s H fp=>aD_) (fun cl C s H fp=>n_ C_ e_ (l_ D1 hr (by rfl) (a_ (pv 1) (a_ (pv 2) c_)))) (by decide +kernel) (by rfl))
   (b_ (F_ (s_ cn_ (l_ D1 hr (by rfl) (a_ (pv 0) (a_ e_ c_))) e_ (nomark _)) (h_ (j_ (i:=3) nd rfl (Or.inl rfl) (n_ qA_ (bB_ dt_ (pv 3) eW_ (br_ e_)) (lenS T.len (by rfl) (pv 3))))) q_)
   (b_ (j_ (i:=4) nd rfl (Or.inl rfl) (l_ D1 hr (by rfl) (a_ (pv 0) (a_ e_ c_))))
   (b_ (j_ (i:=5) nd rfl (Or.inl rfl) (n_ W_ (l_ D1 hr (by rfl) (a_ (pv 0) (a_ e_ c_))) e_))
   (b_ (j_ (i:=6) nd rfl (Or.inl rfl) (A_ c_))
   (b_ (V_ PassesOwn.never rfl (H_ (by rfl) T.range (a_ (o_ (mj_ rfl) (by rfl) T.sum boot_sum (a_ (pv 3) c_)) c_)) (p_ (i:=7) nd rfl (Or.inl rfl))
    (b_ (j_ (i:=8) nd rfl (Or.inl rfl) (n_ W_ (l_ D1 hr (by rfl) (a_ (pv 0) (a_ e_ c_))) e_))
    (b_ (j_ (i:=9) nd rfl (Or.inl rfl) (A_ (a_ e_ (a_ (pv 5) (a_ (n_ bI_ (pv 8) e_) (a_ (pv 8)
      (a_ (n_ ad_ (pv 8) (R_ cu_ (by rfl) T.int boot_int (a_ (bU_ cn_ (l_ D1 hr (by rfl) (a_ (pv 0) (a_ e_ c_))) e_ (nomark _)) c_)))
      (a_ (n_ C_ (n_ bI_ (pv 7) (ixl (pv 3) e_)) e_) c_))))))))
    (h_ (I_ (fS_ PySem.F.plainAttrs_list PySem.F.slot_list_append PySem.F.type_list_append ah_ (pv 6) (a_ (ixl (pv 9) (pv 4)) c_)))))))
   (h_ (m_ (ac_ (a_ (pv 2) (a_ (pv 3) (a_ (pv 6) c_)))))))))))),?_⟩
  refine⟨_,rfl,d,15,rfl,D,by decide,by decide,fun r1 H1 a1 b1 E1 k1=>⟨_,_,rfl,rfl,sz (by simp),fun l1 hl1=>?_⟩⟩
  refine⟨_,rfl,d,5,rfl,E1.keep (f_ hl1),by decide,by decide,fun r2 H2 a2 b2 E2 k2=>?_⟩
  obtain⟨bi,eb,hb⟩:=cK_ (ns:=[2,3,10,16,2+r1]) (Pr:=fun n=>2<=n/\n<=16) a2 b2 (by simp;lia)
  obtain⟨b,rfl⟩:∃b:Nat,bi=b:=⟨bi.toNat,by lia⟩
  refine aI_ (k2 l1 _ d_ (E1.off1 hl1)) eb ?_
  have K2:Kp [d] H H2:=k1.trans ((Kp.of (f_ hl1)).trans k2)
  refine⟨sz (by simp),fun l3 hl3=>⟨_,rfl,d,4,rfl,E2.keep (f_ hl3),by decide,by decide,fun r5 H5 a5 b5 E5 k5=>?_⟩⟩
  obtain⟨np,en,hnp⟩:=cK_ (ns:=[2,2,3,4]) (Pr:=fun n=>2<=n/\n<=4) a5 b5 (by simp)
  have K5:Kp [d] H H5:=K2.trans ((Kp.of (f_ hl3)).trans k5)
  refine aI_ (k5 l3 _ d_ (E2.off1 hl3)) en ⟨_,rfl,by lia,by lia,bG_ (lo:=0) (n:=np.toNat) (fun i ys H6=>∃ps:List Nat,ys=natV ps/\ps.length=i/\(∀x∈ps,1<=x/\x<=6)/\Store H6 d/\Kp [d] H H6)
   ⟨[],rfl,rfl,fun x hx=>by simp at hx,E5,K5⟩ ?_ ?_⟩
  ·rintro i ys H6 hi ⟨ps,rfl,hl,hp,E6,K6⟩
   refine⟨szl (by simp[natV];lia),?_⟩
   refine⟨_,rfl,_,rfl,d,L,rfl,E6,by lia,by lia,fun r H7 a7 b7 E7 k7=>⟨_,_,rfl,rfl,ps++[(1+r).toNat],?_,by simp[hl],fun x hx=>?_,E7,K6.trans k7⟩⟩
   ·have e:(((1+r).toNat:Nat):Int)=1+r:=by lia
    simp[natV]
    lia
   ·rcases List.mem_append.mp hx with hx | hx
    ·exact hp x hx
    ·have:x=(1+r).toNat:=by simpa using hx
     lia
  rintro ys H6 ⟨ps,rfl,hl,hp,E6,K6⟩ a ha
  have hna:a∉[d]:=E6.off1 ha
  refine⟨_,rfl,d,3,rfl,E6.keep (f_ ha),by decide,by decide,fun r6 H7 a6 b6 E7 k7=>⟨rfl,_,rfl,?_⟩⟩
  have K7:Kp [d] H H7:=K6.trans ((Kp.of (f_ ha)).trans k7)
  have h7:H7 a=some (.lst (natV ps)):=k7 a _ d_ hna
  refine lE_ (fun σ H'=>∃(a':Addr) (ps':List Nat),σ=[some (.ref d),some (.int L),some (.int b),some (.ref a'),none,none,none,none,none,none]/\Store H' d/\Kp [d] H H'/\H' a'=some (.lst (natV ps'))/\a'∉[d]/\
   H a'=none/\2<=ps'.length/\ps'.length<=4/\∀x∈ps',1<=x/\x<=6) ?tail (fun hT=>?thn) ⟨a,ps,rfl,E7,K7,h7,hna,K6.free ha hna,by lia,by lia,hp⟩
  case thn =>
   refine⟨_,rfl,_,rfl,a,_,rfl,SqL.of h7,fun l5 hl5=>?_⟩
   have s5:Same H7 (upd H7 l5 (.lst (cutV (natV ps) none (some 1)))):=f_ hl5
   obtain⟨x0,rr,ee⟩:∃x0 rr,ps=x0::rr:=by
    cases ps with
    | nil=>simp at hl;lia
    | cons x0 rr=>exact⟨x0,rr,rfl⟩
   have ec:cutV (natV ps) none (some 1)=[V.int (x0:Int)]:=by
    rw[show(1:Int)=((1:Nat):Int) from rfl,ot_,ee]
    rfl
   refine⟨_,rfl,a,_,rfl,.inl (SqL.of (s5 _ _ h7)),l5,_,_,rfl,rfl,d_,by lia,?_,?_,fun l6 hl6=>hT _ _ ⟨l6,List.replicate ps.length x0,rfl,?_,?_,?_,?_,K7.free (s5.free hl6) ((E7.keep s5).off1 hl6),by simp;lia,by simp;lia,fun x hx=>?_⟩⟩
   ·simp[natV];lia
   ·rw[ec];exact sz (by simp[natV];lia)
   ·exact(E7.keep s5).keep (f_ hl6)
   ·exact K7.same (s5.trans (f_ hl6))
   ·rw[d_,ec]
    simp only[natV,List.length_map,Int.toNat_natCast]
    rw[oT_]
   ·exact(E7.keep s5).off1 hl6
   ·have:=List.eq_of_mem_replicate hx
    rw[this]
    exact hp x0 (by rw[ee];simp)
  case tail =>
   rintro σ H8 ⟨a',ps',rfl,E8,K8,h8,n8,f8,l2',l4',pr'⟩
   have hsum:=Ma.gM_ ps' pr'
   obtain⟨p0,pr,ep⟩:∃x0 rr,ps'=x0::rr:=by
    cases ps' with
    | nil=>simp at l2'
    | cons x0 rr=>exact⟨x0,rr,rfl⟩
   have hp0:=pr' p0 (by rw[ep];simp)
   have eat:atI (natV ps') 0=some (.int (p0:Int)):=by rw[ep];exact aJ_ (j:=0) (by simp[natV])
   refine⟨_,rfl,d,6,rfl,E8,by decide,by decide,fun wv H9 w0 w1 E9 k9=>⟨_,rfl,d,19,rfl,E9,by decide,by decide,fun ov H9b o0 o1 E9b k9b=>⟨_,_,rfl,rfl,sz (by decide),fun l hl=>?_⟩⟩⟩
   have h9:H9b a'=some (.lst (natV ps')):=k9b a' _ (k9 a' _ h8 n8) n8
   have s9:Same H9b (upd H9b l (.lst [])):=f_ hl
   have nl:l∉[d]:=E9b.off1 hl
   have nld:l≠d:=E9b.off hl
   have al:a'≠l:=k_ h9 hl
   have K9:Kp [d] H H9b:=(K8.trans k9).trans k9b
   refine⟨_,rfl,a',ps'.map fun(p:Nat)=>(p:Int),rfl,SqL.of (by rw[<-hA_];exact s9 _ _ h9),⟨by rw[List.length_map];lia,nf_ pr'⟩,_,rfl,?_⟩
   rw[Ma.eA_]
   refine⟨by lia,by lia,?_⟩
   have en':(((ps'.sum:Nat):Int)).toNat=ps'.sum:=by lia
   rw[en']
   refine Z_ (n:=ps'.sum) (fun i σ H6=>∃(ws:List Int) (v7 v8 v9:Option V),σ=[some (.ref d),some (.int L),some (.int b),some (.ref a'),some (.int wv),some (.int (ov-9)),some (.ref l),v7,v8,v9]/\Store H6 d/\Kp [d] H H6/\H6 a'=some (.lst (natV ps'))/\
    H6 l=some (.lst (ws.map V.int))/\ws.length=i/\∀x∈ws,-9<=x/\x<=9) ⟨[],none,none,none,rfl,E9b.keep s9,K9.same s9,s9 _ _ h9,d_,rfl,fun x hx=>by simp at hx⟩ ?_ ?_
   ·rintro i σ H10 hi ⟨ws,v7,v8,v9,rfl,E10,K10,h10,hl10,hw10,hr10⟩
    refine⟨_,rfl,d,19,rfl,E10,by decide,by decide,fun av G1 x1 y1 F1 j1=>⟨_,_,rfl,rfl,?_⟩⟩
    refine⟨_,rfl,_,rfl,_,_,rfl,rfl,(by show(0:Int)<3;decide),_,rfl,_,rfl,_,rfl,d,4,rfl,F1,by decide,by decide,fun r3 G3 x3 y3 F3 j3=>?_⟩
    have J3:Kp [d] H10 G3:=j1.trans j3
    have la:G3 a'=some (.lst (natV ps')):=J3 a' _ h10 n8
    have ll:G3 l=some (.lst (ws.map V.int)):=J3 l _ hl10 nl
    refine⟨rfl,.inr ⟨_,rfl,_,_,rfl,rfl,b01 _,?_⟩⟩
    refine⟨_,rfl,_,rfl,_,_,_,_,rfl,rfl,SqL.of la,eat,⟨_,_,rfl,rfl,(by show(0:Int)<p0;lia),_,_,rfl,rfl,sz (by simp),fun m hm=>?_⟩⟩
    have nm:m≠d:=F3.off hm
    have q1:=Int.emod_nonneg (0+(i:Int)) (show(p0:Int)≠0 by lia)
    have q2:=Int.emod_lt_of_pos (0+(i:Int)) (show(0:Int)<p0 by lia)
    have q3:=Int.emod_nonneg (av-9) (show(3:Int)≠0 by decide)
    have q4:=Int.emod_lt_of_pos (av-9) (show(0:Int)<3 by decide)
    obtain⟨x,ev,hx⟩:=cK_ (ns:=[1,ov-9,(av-9) % 3,av-9,(av-9)*(if (decide (V.int r3=V.int 0))=true then 1 else 0),(0+(i:Int)) % (p0:Int)+1]) (i:=wv) (Pr:=fun n => -9<=n/\n<=9) w0 w1 (by
     intro n hn
     simp only[List.mem_cons,List.not_mem_nil,or_false] at hn
     rcases hn with rfl | rfl | rfl | rfl | rfl | rfl
     ·decide
     ·lia
     ·lia
     ·lia
     ·split <;> lia
     ·lia)
    refine⟨_,rfl,.inl ⟨rfl,_,SqL.of ((f_ hm) _ _ ll)⟩,_,rfl,_,rfl,_,_,_,_,rfl,rfl,SqL.of d_,ev,⟨l,_,_,rfl,rfl,(f_ hm) _ _ ll,szl (by rw[List.length_map];lia),ws++[x],_,_,_,rfl,?_,?_,?_,?_,by simp[hw10],fun y hy=>?_⟩⟩
    ·exact(F3.keep (f_ hm)).upd nld
    ·exact dL_ ((K10.trans J3).same (f_ hm)) (.inr (K9.free hl nl))
    ·rw[i_ al];exact(f_ hm) _ _ la
    ·rw[d_];simp
    ·rcases List.mem_append.mp hy with hy | hy
     ·exact hr10 y hy
     ·have:y=x:=by simpa using hy
      rw[this];exact hx
   ·rintro σ H6 ⟨ws,v7,v8,v9,rfl,E10,K10,h10,hl10,hw10,hr10⟩
    refine⟨_,rfl,_,rfl,_,rfl,sz (by simp),fun f' hf'=>?_⟩
    have sf:Same H6 (upd H6 f' (.tup [.int b,.ref a',.ref l])):=f_ hf'
    exact k f' a' l b ps' ws _ (E10.keep sf) (K10.same sf) ⟨d_,sf _ _ h10,sf _ _ hl10,⟨by lia,by lia,l2',l4',pr',hw10,hr10⟩⟩ (K10.free hf' (E10.off1 hf')) f8 (K9.free hl nl)
end
theorem boot_dict:bootBuiltins "dict"=some (.type "dict"):=PyProof.Rows.boot_dict
theorem boot_sorted:bootBuiltins "sorted"=some (.builtin "sorted"):=PyProof.Rows.boot_sorted
theorem hH_{f:List (Int×Int)}{i:Nat}{k:Key}{v:V}(h:(intsD f)[i]?=some (k,v)):∃p:Int×Int,f[i]?=some p/\k=Sum.inl p.1/\v=.int p.2:=by
 rw[intsD,List.getElem?_map] at h
 cases e:f[i]? with
 | none=>rw[e] at h;cases h
 | some p =>
  rw[e] at h
  have z:=Option.some.inj h
  exact⟨p,rfl,(congrArg Prod.fst z).symm,(congrArg Prod.snd z).symm⟩
theorem av_{H:Hp}{a:Addr}{f:List (Int×Int)}{k:Int}(h:Rd H a (.dK (intsD f))):DGet H a (.int k) ((Me.look f k).map V.int):=.inl ⟨intsD f,Sum.inl k,h,rfl,(kb_ f k).symm⟩
theorem di_(o:Option Int):(o.map V.int).getD (.int 0)=.int (o.getD 0):=by cases o <;> rfl
theorem dP_{H:Hp}{a:Addr}{f:List (Int×Int)}{k v:Int}(h:H a=some (.dK (intsD f)))(hl:f.length<=100000):DPut H a (.int k) (.int v) (upd H a (.dK (intsD (Me.put f k v)))):=by
 rw[<-iv_]
 exact DPut.k (k:=Sum.inl k) h (szl (by rw[intsD,List.length_map];lia))
def dp_:Sp:=fun vs H Q _=>∃(a:Addr) (f:List (Int×Int)) (b:Nat) (w:Int) (m:Nat),vs=[.ref a,.int b,.int w]/\H a=some (.dK (intsD f))/\Me.Ok f m/\m<=1000/\b<=16/\(-9<=w/\w<=9)/\
 ∀p H',H p=none->Same H H'->H' p=some (.dK (intsD (Me.P_ f b w)))->Q (.ref p) H'
section
variable{P:Program}{w:World}{K:PySem.W.Frag}{mg:Str->Option Value}{base:Heap}
theorem fH_:FnScope ["ways","base","weight","longer","total","figure","reached"] ["ways","base","weight"] (g_ eM_):=⟨rfl,rfl,rfl,by decide +kernel,rfl,by decide +kernel,by decide +kernel⟩
theorem ju_{f:Addr}{fd:FuncData}(F:Fun K "with_one_more_figure" "with_one_more_figure" eM_ f fd)(T:Txt mg):FnOk P w K mg base CX0 1 f fd ["ways","base","weight"] dp_:=by
 refine F.ok fH_ (fun vs H Q E h=>?_) (fun cdv A outer s H vs Q E hr h=>?_)
 ·obtain⟨a,f,b,wt,m,rfl,_⟩:=h;rfl
 ·obtain⟨a,f,b,wt,m,rfl,ha,ok,hm,hb,hw,k⟩:=h
  have nd:=fH_.nd
  have hu:=jL_ hr
  refine⟨_,b_ (j_ (i:=3) nd rfl (Or.inl rfl) de_)
   (b_ (V_ PassesOwn.never rfl (hk_ (pv 0)) (p_ (i:=4) nd rfl (Or.inl rfl))
    (h_ (V_ PassesOwn.never rfl (H_ (by rfl) T.range (a_ (pv 1) c_)) (p_ (i:=5) nd rfl (Or.inl rfl))
     (b_ (j_ (i:=6) nd rfl (Or.inl rfl) (n_ C_ (pv 4) (n_ ad_ (pv 5) (pv 2))))
     (h_ (hi_ hu (pv 3) (pv 6) (n_ C_ (df_ hu (pv 3) (pv 6) e_ ⟨rfl,rfl,rfl,rfl⟩) (hm_ hu (pv 0) (pv 4) (fun _ _=>rfl))) rfl))))))
   (eT_ (h_ (m_ (pv 3))))),?_⟩
  intro l hl
  have nal:a≠l:=k_ ha hl
  refine⟨_,rfl,a,intsD f,rfl,(by rw[i_ nal];exact ha),fun o=>fn_ (fun i σ H2=>∃v4 v5 v6,σ=[some (.ref a),some (.int b),some (.int wt),some (.ref l),v4,v5,v6]/\H2 a=some (.frz o (.dK (intsD f)))/\Kp [a] H H2/\H2 l=some (.dK (intsD (Me.P_ (f.take i) b wt))))
   ⟨none,none,none,rfl,d_,dL_ (dL_ Kp.refl (.inr hl)) (.inl (by simp)),?_⟩ (fun i σ H2 _ h=>by obtain⟨_,_,_,_,z,_⟩:=h;exact z) ?_ ?_⟩
  ·rw[i_ nal.symm,d_];rfl
  ·rintro i kk v σ H2 hk ⟨v4,v5,v6,rfl,fa,kp,hl2⟩
   obtain⟨p,hp,rfl,rfl⟩:=hH_ hk
   have pm:=List.mem_of_getElem? hp
   have pb:=ok.bd p.1 (List.mem_map.mpr ⟨p,pm,rfl⟩)
   have o0:=Me.bC_ ok hw hb i
   refine⟨_,rfl,_,rfl,by lia,by lia,Z_ (n:=(b:Int).toNat) (fun d σ H3=>∃v5 v6,σ=[some (.ref a),some (.int b),some (.int wt),some (.ref l),some (.int p.1),v5,v6]/\H3 a=some (.frz o (.dK (intsD f)))/\Kp [a] H H3/\H3 l=some (.dK (intsD (Me.figs p wt d (Me.P_ (f.take i) b wt)))))
    ⟨v5,v6,rfl,fa,kp,hl2⟩ ?_ ?_⟩
   ·rintro d σ H3 hd ⟨v5,v6,rfl,fa3,kp3,hl3⟩
    have hd':d<b:=by lia
    have od:=Me.hI_ pb hw hb o0 d (by lia)
    have hlen:=Me.Ok.len (m:=m+135) (by push_cast;exact od)
    refine⟨_,rfl,_,rfl,_,rfl,_,_,rfl,rfl,.inr ⟨by lia,by lia⟩,_,_,rfl,rfl,?_⟩
    refine⟨_,rfl,l,rfl,.inl ⟨_,.inl hl3⟩,_,rfl,_,av_ (.inl hl3),_,rfl,_,rfl,a,.int p.2,rfl,?_,_,_,di_ _,rfl,_,rfl,_,rfl,l,_,rfl,dP_ hl3 (by lia),?_⟩
    ·have z:=av_ (k:=p.1) (.inr ⟨o,fa3⟩)
     rw[Me.ba_ ok.nd pm] at z
     exact z
    ·refine⟨_,_,rfl,?_,dL_ kp3 (.inr hl),?_⟩
     ·rw[i_ nal];exact fa3
     ·rw[d_,Me.ai_]
      have e0:(0:Int)+(d:Int)=(d:Int):=Int.zero_add _
      rw[e0]
      rfl
   ·rintro σ H3 ⟨v5,v6,rfl,fa3,kp3,hl3⟩
    refine⟨_,_,_,rfl,fa3,kp3,?_⟩
    have eb:(b:Int).toNat=b:=by lia
    rw[eb] at hl3
    rw[Me.cU_ hp]
    exact hl3
  ·rintro σ H2 ⟨v4,v5,v6,rfl,fa,kp,hl2⟩
   have el:(intsD f).length=f.length:=by rw[intsD,List.length_map]
   rw[el,List.take_length] at hl2
   refine⟨a,o,intsD f,fa,(fun o' u z=>by
    have z':H a=some (.frz o' u):=z
    rw[ha] at z';cases z'),_,rfl,k l _ hl (fun x ob e=>?_) (by rw[i_ nal.symm];exact hl2)⟩
   by_cases hx:x=a
   ·rw[hx,d_,<-ha,<-hx];exact e
   ·rw[i_ hx];exact kp x ob e (by simpa using hx)
end
theorem ek_{H H':Hp}(s:Same H H'){ts:List Addr}{kvs:List (Key×V)}(h:ca_ H ts kvs):ca_ H' ts kvs:=Paired.mapP h fun _ _ e=>s _ _ e
theorem jp_{H:Hp}{t:Addr}{p:Key×V}(h:H t=some (.tup [kV p.1,p.2])){ts:List Addr}{kvs:List (Key×V)}(q:ca_ H ts kvs):ca_ H (ts++[t]) (kvs++[p]):=by
 induction q with
 | nil=>exact .cons h .nil
 | cons h0 _ ih=>exact .cons h0 ih
def eD_:Sp:=fun vs H Q _=>∃(b:Nat) (r:Addr) (ws:List Int),vs=[.int b,.ref r]/\H r=some (.lst (ws.map V.int))/\b<=16/\(∀x∈ws,-9<=x/\x<=9)/\ws.length<=6/\
 ∀p H' g,H p=none->Same H H'->H' p=some (.dK (intsD g))->g.Perm (Me.waysW b ws)->Q (.ref p) H'
theorem nI_{b i:Nat}{ws:List Int}(hw:∀x∈ws,-9<=x/\x<=9)(hb:b<=16):Me.Ok (Me.waysW b (ws.take i)) ((135*i:Nat):Int):=by
 have h:=Me.ex_ hw hb i
 push_cast
 exact h
section
variable{P:Program}{w:World}{K:PySem.W.Frag}{mg:Str->Option Value}{base:Heap}
theorem kD_:FnScope ["base","weights","ways","weight"] ["base","weights"] (g_ ip_):=⟨rfl,rfl,rfl,by decide +kernel,rfl,by decide +kernel,by decide +kernel⟩
theorem mT_{f:Addr}{fd:FuncData}(F:Fun K "ways_of_weights" "ways_of_weights" ip_ f fd)(T:Txt mg)(ndict:mg "dict"=none)(nsorted:mg "sorted"=none)(DO:Def P w K mg base 1 "with_one_more_figure" ["ways","base","weight"] dp_) :
  FnOk P w K mg base CX0 2 f fd ["base","weights"] eD_:=by
 refine F.ok kD_ (fun vs H Q E h=>?_) (fun cdv A outer s H vs Q E hr h=>?_)
 ·obtain⟨b,r,ws,rfl,_⟩:=h;rfl
 ·obtain⟨b,r,ws,rfl,hrow,hb,hw,hlen,k⟩:=h
  have nd:=kD_.nd
  have hu:=jL_ hr
  refine⟨_,b_ (j_ (i:=2) nd rfl (Or.inr rfl) (pf_ (mL_ e_ e_ oZ_) rfl rfl (by simp) (by decide)))
   (b_ (V_ PassesOwn.never rfl (O_ (pv 1)) (p_ (i:=3) nd rfl (Or.inl rfl)) (h_ (j_ (i:=2) nd rfl (Or.inr rfl) (l_ DO hr (by rfl) (a_ (pv 2) (a_ (pv 0) (a_ (pv 3) c_)))))))
   (h_ (m_ (R_ (jU_ rfl) (by rfl) ndict boot_dict (a_ (bt_ (g_ ip_) ["base","weights","ways","weight"] ["ways"] [2] rfl (O_ (o_ (gv_ rfl) (by rfl) nsorted boot_sorted (a_ (pv 2) c_)))
    (fun cl C s H fp=>aD_) (fun cl C s H fp=>ac_ (a_ (pv 0) (a_ (hm_ hu (pv 1) (pv 0) (fun _ _=>rfl)) c_))) (by decide +kernel)) c_))))),?_⟩
  intro p0 hp0
  refine⟨d_,[(Sum.inl 0,.int 1)],rfl,by decide,?_⟩
  have s0:Same H (upd (upd H p0 (.dK [])) p0 (.dK (aN_ [] [(Sum.inl 0,V.int 1)]))):=D_ (f_ hp0) hp0
  have u0:(upd (upd H p0 (.dK [])) p0 (.dK (aN_ [] [(Sum.inl 0,V.int 1)]))) p0=some (.dK (intsD [(0,1)])):=d_
  generalize upd (upd H p0 (.dK [])) p0 (.dK (aN_ [] [(Sum.inl 0,V.int 1)]))=H0 at s0 u0⊢
  refine⟨_,rfl,r,rfl,⟨_,SqL.of (s0 _ _ hrow)⟩,bc_ (K:=K) (a:=r) (xs:=ws.map V.int) (fun i σ H2=>∃p v3,σ=[some (.int b),some (.ref r),some (.ref p),v3]/\Same H H2/\H p=none/\H2 p=some (.dK (intsD (Me.waysW b (ws.take i)))))
   ⟨p0,none,rfl,s0,hp0,u0⟩ (fun i σ H2 _ h=>by obtain⟨_,_,_,s2,_⟩:=h;exact SqL.of (s2 _ _ hrow)) ?_ ?_⟩
  ·rintro i x σ H2 hx ⟨p,v3,rfl,s2,np,hp⟩
   have hil:i<ws.length:=by have:=(List.getElem?_eq_some_iff.mp hx).1;simpa using this
   obtain⟨y,hy,rfl⟩:∃y:Int,ws[i]?=some y/\x=.int y:=by
    rw[List.getElem?_map] at hx
    cases e:ws[i]? with
    | none=>rw[e] at hx;cases hx
    | some d=>rw[e] at hx;exact⟨d,rfl,(Option.some.inj hx).symm⟩
   refine⟨_,rfl,_,rfl,_,rfl,p,_,b,y,135*i,rfl,hp,nI_ hw hb,by lia,hb,hw y (List.mem_of_getElem? hy),fun p' H3 np' s3 hp3=>⟨p',_,rfl,s2.trans s3,s2.free np',?_⟩⟩
   rw[Me.ea_ hy]
   exact hp3
  rintro σ H2 ⟨p,v3,rfl,s2,np,hp⟩
  have oW:Me.Ok (Me.waysW b ws) ((135*ws.length:Nat):Int):=by
   have:=nI_ (i:=ws.length) hw hb
   rwa [List.take_length] at this
  rw[List.length_map,List.take_length] at hp
  have hWl:=oW.len
  generalize Me.waysW b ws=W at hp oW hWl k
  refine⟨_,rfl,p,intsD W,Me.keys W,rfl,.inl hp,by simp[intsD,Me.keys],fun l ns' hl hperm=>?_⟩
  have s3:=f_ (o:=.lst (ns'.map V.int)) hl
  have u3:(upd H2 l (.lst (ns'.map V.int))) l=some (.lst (ns'.map V.int)):=d_
  generalize upd H2 l (.lst (ns'.map V.int))=H3 at s3 u3⊢
  have hp3:=s3 _ _ hp
  have hnl:ns'.length=W.length:=by rw[hperm.length_eq];simp[Me.keys]
  refine⟨l,rfl,⟨_,SqL.of u3⟩,ab_ (K:=K) (a:=l) (xs:=ns'.map V.int) (fun i ys H'=>∃ts,ys=ts.map V.ref/\ts.length=i/\Same H3 H'/\ca_ H' ts (intsD ((ns'.take i).map fun n=>(n,(Me.look W n).getD 0))))
   ⟨[],rfl,rfl,Same.refl _,.nil⟩ (fun i ys H' _ h=>by obtain⟨_,_,_,s',_⟩:=h;exact SqL.of (s' _ _ u3)) ?_ ?_⟩
  ·rintro i x ys H' hx ⟨ts,rfl,htl,s',pa⟩
   have hil:i<ns'.length:=by have:=(List.getElem?_eq_some_iff.mp hx).1;simpa using this
   obtain⟨n,hn,rfl⟩:∃n:Int,ns'[i]?=some n/\x=.int n:=by
    rw[List.getElem?_map] at hx
    cases e:ns'[i]? with
    | none=>rw[e] at hx;cases hx
    | some d=>rw[e] at hx;exact⟨d,rfl,(Option.some.inj hx).symm⟩
   obtain⟨q,hq,eq⟩:=List.mem_map.mp (hperm.mem_iff.mp (List.mem_of_getElem? hn))
   have hlk:Me.look W n=some q.2:=by rw[<-eq];exact Me.ba_ oW.nd hq
   refine⟨szl (by rw[List.length_map];lia),_,rfl,_,rfl,_,rfl,p,.int q.2,rfl,?_,sz (by simp),fun t ht=>⟨ts++[t],by simp,by simp[htl],s'.trans (f_ ht),?_⟩⟩
   ·have z:=av_ (k:=n) (.inl (s' _ _ hp3))
    rw[hlk] at z
    exact z
   ·rw[List.take_add_one,hn]
    have e2:intsD ((ns'.take i++(some n).toList).map fun n=>(n,(Me.look W n).getD 0))=intsD ((ns'.take i).map fun n=>(n,(Me.look W n).getD 0))++[(Sum.inl n,V.int q.2)]:=by
     simp[intsD,hlk]
    rw[e2]
    exact jp_ (p:=(Sum.inl n,V.int q.2)) d_ (ek_ (f_ ht) pa)
  rintro ys H' ⟨ts,rfl,htl,s',pa⟩ l2 hl2
  rw[List.length_map,List.take_length] at pa
  have hg:=Me.jq_ oW.nd hperm
  have gnd:(Me.keys (ns'.map fun n=>(n,(Me.look W n).getD 0))).Nodup:=(hg.map Prod.fst).nodup_iff.mpr oW.nd
  refine⟨l2,ts,_,rfl,d_,ek_ (f_ hl2) pa,fun q hq=>?_⟩
  have em:aN_ [] (intsD (ns'.map fun n=>(n,(Me.look W n).getD 0)))=intsD (ns'.map fun n=>(n,(Me.look W n).getD 0)):=by
   have z:=ep_ (ns'.map fun n=>(n,(Me.look W n).getD 0)) []
   rw[Me.gi_ _ [] (by simpa using gnd)] at z
   exact z
  rw[em]
  have S:=s2.trans (s3.trans (s'.trans (f_ (o:=.lst (ts.map V.ref)) hl2)))
  exact k q _ _ (S.free hq) (S.trans (f_ hq)) d_ hg
end
end Hv
namespace Me
abbrev tot(f:List (Int×Int)):Int:=(f.map (·.2)).sum
theorem kP_{f:List (Int×Int)}{k v:Int}(h:k∉keys f):(f.map fun p=>if p.1=k then (p.1,v) else p)=f:=by
 induction f with
 | nil=>rfl
 | cons p f ih =>
  have h1:p.1≠k:=fun z=>h (by simp[keys,z])
  have h2:k∉keys f:=fun z=>h (List.mem_cons_of_mem _ z)
  rw[List.map_cons,ih h2,if_neg h1]
theorem oY_{f:List (Int×Int)}{a x v:Int}(h:a∉keys f):put ((a,x)::f) a v=(a,v)::f:=by
 unfold put
 rw[if_pos (by simp),List.map_cons,kP_ h,if_pos rfl]
theorem mI_{f:List (Int×Int)}{a x k v:Int}(h:a≠k):put ((a,x)::f) k v=(a,x)::put f k v:=by
 unfold put
 have e:(((a,x)::f).any fun p=>decide (p.1=k))=f.any fun p=>decide (p.1=k):=by
  rw[List.any_cons]
  simp[h]
 rw[e]
 split
 ·rw[List.map_cons,if_neg h]
 ·rfl
theorem bE_{f:List (Int×Int)}{a x:Int}:look ((a,x)::f) a=some x:=by simp[look]
theorem aO_{f:List (Int×Int)}{a x k:Int}(h:a≠k):look ((a,x)::f) k=look f k:=by simp[look,h]
theorem fr_{f:List (Int×Int)}{a x n:Int}(h:a∉keys f):addTo ((a,x)::f) a n=(a,x+n)::f:=by
 unfold addTo
 rw[bE_,oY_ h]
 rfl
theorem dl_{f:List (Int×Int)}{a x k n:Int}(h:a≠k):addTo ((a,x)::f) k n=(a,x)::addTo f k n:=by
 unfold addTo
 rw[aO_ h,mI_ h]
theorem mr_{k n:Int}:∀ {f:List (Int×Int)},(keys f).Nodup->tot (addTo f k n)=tot f+n
 | [],_=>by simp[addTo,put,look,tot]
 | (a,x)::f,nd=>by
  have nd1:a∉keys f:=(List.nodup_cons.mp nd).1
  have nd2:(keys f).Nodup:=(List.nodup_cons.mp nd).2
  by_cases e:a=k
  ·subst e
   rw[fr_ nd1]
   simp only[tot,List.map_cons,List.sum_cons]
   lia
  ·have ih:=mr_ (k:=k) (n:=n) nd2
   rw[dl_ e]
   simp only[tot,List.map_cons,List.sum_cons] at ih⊢
   lia
theorem oz_{k n:Int}(hn:0<=n):∀ {f:List (Int×Int)},(keys f).Nodup->(∀p∈f,0<=p.2)->∀p∈addTo f k n,0<=p.2
 | [],_,_=>by
  intro p hp
  have:p=(k,0+n):=by simpa [addTo,put,look] using hp
  rw[this]
  show 0<=0+n
  lia
 | (a,x)::f,nd,h=>by
  have nd1:a∉keys f:=(List.nodup_cons.mp nd).1
  have nd2:(keys f).Nodup:=(List.nodup_cons.mp nd).2
  have hx:0<=x:=h (a,x) (by simp)
  have hf:∀p∈f,0<=p.2:=fun p hp=>h p (by simp[hp])
  by_cases e:a=k
  ·subst e
   rw[fr_ nd1]
   intro p hp
   rcases List.mem_cons.mp hp with rfl | hp
   ·show 0<=x+n
    lia
   ·exact hf p hp
  ·rw[dl_ e]
   intro p hp
   rcases List.mem_cons.mp hp with rfl | hp
   ·exact hx
   ·exact oz_ hn nd2 hf p hp
theorem oA_{f:List (Int×Int)}{k n:Int}(nd:(keys f).Nodup):(keys (addTo f k n)).Nodup:=iT_ nd
structure Tw(f:List (Int×Int))(t:Int):Prop where
 nd:(keys f).Nodup
 nn:∀p∈f,0<=p.2
 tt:tot f=t
theorem Tw.add{f:List (Int×Int)}{t k n:Int}(o:Tw f t)(hn:0<=n):Tw (addTo f k n) (t+n):=⟨oA_ o.nd,oz_ hn o.nd o.nn,by rw[mr_ o.nd,o.tt]⟩
theorem Tw.figs{f:List (Int×Int)}{t w:Int}{p:Int×Int}(o:Tw f t)(hp:0<=p.2):∀n:Nat,Tw (figs p w n f) (t+n*p.2)
 | 0=>by
  have e:t+((0:Nat):Int)*p.2=t:=by simp
  rw[e];exact o
 | n+1=>by
  have e:t+((n+1:Nat):Int)*p.2=(t+n*p.2)+p.2:=by push_cast;rw[Int.add_mul];lia
  rw[ai_,e]
  exact(Tw.figs o hp n).add hp
theorem Tw.more{b:Nat}{w:Int}:∀ {f:List (Int×Int)} {acc:List (Int×Int)} {t:Int},Tw acc t->(∀p∈f,0<=p.2)->Tw (f.foldl (fun acc p=>Me.figs p w b acc) acc) (t+b*tot f)
 | [],acc,t,o,_=>by
  have e:t+(b:Int)*tot []=t:=by simp[tot]
  rw[e];exact o
 | p::f,acc,t,o,h=>by
  have e:t+(b:Int)*tot (p::f)=(t+b*p.2)+b*tot f:=by
   simp only[tot,List.map_cons,List.sum_cons]
   rw[Int.mul_add];lia
  rw[e,List.foldl_cons]
  exact Tw.more (o.figs (h p (by simp)) b) (fun q hq=>h q (by simp[hq]))
theorem Tw.one{f:List (Int×Int)}{t w:Int}{b:Nat}(o:Tw f t):Tw (P_ f b w) (b*t):=by
 have z:Tw [] 0:=⟨by simp[keys],fun p hp=>by simp at hp,rfl⟩
 have h:=Tw.more (b:=b) (w:=w) z o.nn
 rw[o.tt] at h
 have e:(0:Int)+b*t=b*t:=by lia
 rw[e] at h
 exact h
theorem hT_(b:Nat):∀(ws:List Int) (f:List (Int×Int)) (t:Int),Tw f t->Tw (ws.foldl (fun f w=>P_ f b w) f) ((b:Int) ^ ws.length*t)
 | [],f,t,o=>by
  have e:(b:Int) ^ ([]:List Int).length*t=t:=by simp
  rw[e];exact o
 | w::ws,f,t,o=>by
  have e:(b:Int) ^ (w::ws).length*t=(b:Int) ^ ws.length*(b*t):=by
   rw[List.length_cons,Int.pow_succ,Int.mul_assoc]
  rw[e]
  exact hT_ b ws _ _ o.one
theorem ew_(b:Nat)(ws:List Int):Tw (waysW b ws) ((b:Int) ^ ws.length):=by
 have z:Tw [(0,1)] 1:=⟨by simp[keys],fun p hp=>by
  have:p=(0,1):=by simpa using hp
  rw[this];decide,rfl⟩
 have h:=hT_ b ws _ _ z
 rw[Int.mul_one] at h
 exact h
theorem ob_:∀ {f:List (Int×Int)},(∀p∈f,0<=p.2)->0<=tot f/\∀p∈f,p.2<=tot f
 | [],_=>⟨by simp[tot],fun p hp=>by simp at hp⟩
 | q::f,h=>by
  obtain⟨i1,i2⟩:=ob_ (f:=f) fun p hp=>h p (by simp[hp])
  have hq:=h q (by simp)
  have e:tot (q::f)=q.2+tot f:=by simp[tot]
  rw[e]
  refine⟨by lia,fun p hp=>?_⟩
  rcases List.mem_cons.mp hp with rfl | hp
  ·lia
  ·have:=i2 p hp;lia
theorem hS_{b:Nat}{ws:List Int}(hb:b<=16)(hl:ws.length<=6)(k:Int):0<=(look (waysW b ws) k).getD 0/\(look (waysW b ws) k).getD 0<=16777216:=by
 have o:=ew_ b ws
 obtain⟨h0,h1⟩:=ob_ o.nn
 rw[o.tt] at h1
 have hm:b ^ ws.length<=16 ^ 6:=Nat.le_trans (Nat.pow_le_pow_left hb _) (Nat.pow_le_pow_right (by decide) hl)
 have hm':((b:Int) ^ ws.length)<=16777216:=by
  have e:((b ^ ws.length:Nat):Int)=(b:Int) ^ ws.length:=Int.natCast_pow b ws.length
  rw[<-e]
  have:(16:Nat) ^ 6=16777216:=by decide
  lia
 cases e:(waysW b ws).find? fun q=>decide (q.1=k) with
 | none =>
  rw[look,e]
  exact⟨by decide,by decide⟩
 | some q =>
  have hq:=List.mem_of_find?_eq_some e
  rw[look,e]
  exact⟨o.nn q hq,Int.le_trans (h1 q hq) hm'⟩
theorem gj_{f g:List (Int×Int)}(h:f.Perm g)(nd:(keys g).Nodup)(k:Int):look f k=look g k:=by
 have ndf:(keys f).Nodup:=(h.map _).nodup_iff.mpr nd
 cases e:g.find? fun q=>decide (q.1=k) with
 | none =>
  have e2:f.find? (fun q=>decide (q.1=k))=none:=by
   rw[List.find?_eq_none] at e⊢
   exact fun x hx=>e x (h.mem_iff.mp hx)
  rw[look,look,e,e2]
 | some q =>
  have hq:=List.mem_of_find?_eq_some e
  have hk:q.1=k:=by simpa using List.find?_some e
  rw[<-hk,ba_ nd hq,ba_ ndf (h.mem_iff.mpr hq)]
def prodW(b:Nat)(rows:List (List Int))(t:Int):Int:=rows.foldl (fun m row=>m*(look (waysW b row) t).getD 0) 1
theorem jo_{b i:Nat}{rows:List (List Int)}{row:List Int}{t:Int}(h:rows[i]?=some row):prodW b (rows.take (i+1)) t=prodW b (rows.take i) t*(look (waysW b row) t).getD 0:=by
 unfold prodW
 rw[List.take_add_one,h,List.foldl_append]
 rfl
def evenL(b:Nat)(rows:List (List Int))(ks:List Int):List (Int×Int):=(ks.filter fun k=>decide (0<prodW b rows k)).map fun k=>(k,prodW b rows k)
theorem lO_(b:Nat)(rows:List (List Int))(ks:List Int):keys (evenL b rows ks)=ks.filter fun k=>decide (0<prodW b rows k):=by
 rw[keys,evenL,List.map_map]
 exact List.map_id' _
theorem lN_{b:Nat}{rows:List (List Int)}{ks ls:List Int}(h:ks.Perm ls):(evenL b rows ks).Perm (evenL b rows ls):=(h.filter _).map _
theorem nt_(b:Nat)(rows:List (List Int))(ks:List Int):(evenL b rows ks).length<=ks.length:=by
 rw[evenL,List.length_map]
 exact List.length_filter_le _ _
theorem nr_{b i:Nat}{rows:List (List Int)}{ks:List Int}{k:Int}(nd:ks.Nodup)(h:ks[i]?=some k)(hp:0<prodW b rows k):evenL b rows (ks.take (i+1))=put (evenL b rows (ks.take i)) k (prodW b rows k):=by
 have hk:k∉keys (evenL b rows (ks.take i)):=fun z=>by
  rw[lO_] at z
  have z1:=(List.mem_filter.mp z).1
  obtain⟨j,hj⟩:=List.mem_iff_getElem?.mp z1
  rw[List.getElem?_take] at hj
  split at hj
  ·rename_i hji
   have:=(List.getElem?_inj (by have:=(List.getElem?_eq_some_iff.mp hj).1;exact this) nd).mp (hj.trans h.symm)
   lia
  ·cases hj
 rw[kR_ hk,evenL,List.take_add_one,h,List.filter_append,List.map_append]
 congr 1
 show([k].filter _).map _=_
 rw[List.filter_cons_of_pos (by simpa using hp)]
 rfl
theorem pG_{b i:Nat}{rows:List (List Int)}{ks:List Int}{k:Int}(h:ks[i]?=some k)(hp:¬ 0<prodW b rows k):evenL b rows (ks.take (i+1))=evenL b rows (ks.take i):=by
 rw[evenL,evenL,List.take_add_one,h,List.filter_append,List.map_append]
 show _++([k].filter _).map _=_
 rw[List.filter_cons_of_neg (by simpa using hp)]
 simp
end Me
namespace Hv
open PySem L2
abbrev eu_(H:Hp)(b:Nat)(qs:List Addr)(rows:List (List Int)):Prop:=Paired (fun q row=>∃g,H q=some (.dK (intsD g))/\g.Perm (Me.waysW b row)) qs rows
theorem eu_.keep{H H':Hp}{b:Nat}{qs:List Addr}{rows:List (List Int)}(s:Same H H')(h:eu_ H b qs rows):eu_ H' b qs rows:=L2.Paired.mapP h fun q row ⟨g,e,p⟩=>⟨g,s _ _ e,p⟩
abbrev oB_(H:Hp)(b:Nat)(qs:List Addr)(rows:List (List Int)):Prop:=Paired (fun q row=>∃g,Rd H q (.dK (intsD g))/\g.Perm (Me.waysW b row)) qs rows
def aT_:Sp:=fun vs H Q _=>∃f a c b ps ws,vs=[.ref f]/\FrAt H f a c b ps ws/\∀(p:Addr) (qs:List Addr) (H':Hp),Same H H'->H p=none->H' p=some (.lst (qs.map V.ref))->eu_ H' b qs (Ma.cuts ps ws)->Q (.ref p) H'
def cw_:Sp:=fun vs H Q _=>∃(p:Addr) (qs:List Addr) (b:Nat) (rows:List (List Int)) (t:Int),vs=[.ref p,.int t]/\H p=some (.lst (qs.map V.ref))/\oB_ H b qs rows/\b<=16/\(∀row∈rows,(∀x∈row,-9<=x/\x<=9)/\row.length<=6)/\
 Q (.int (Me.prodW b rows t)) H
section
variable{P:Program}{w:World}{K:PySem.W.Frag}{mg:Str->Option Value}{base:Heap}
theorem gV_:FnScope ["frame"] ["frame"] (g_ bw_):=⟨rfl,rfl,rfl,by decide +kernel,rfl,by decide +kernel,by decide +kernel⟩
theorem fW_{f:Addr}{fd:FuncData}(F:Fun K "ways_of_parts" "ways_of_parts" bw_ f fd)(T:Txt mg)(DC:Def P w K mg base 1 "cut_by_parts" ["frame","row"] spCut)(DV:Def P w K mg base 2 "ways_of_weights" ["base","weights"] eD_) :
  FnOk P w K mg base CX0 3 f fd ["frame"] aT_:=by
 refine F.ok gV_ (fun vs H Q E h=>?_) (fun cdv A outer s H vs Q E hr h=>?_)
 ·obtain⟨g,a,c,b,ps,ws,rfl,_⟩:=h;rfl
 ·obtain⟨g,a,c,b,ps,ws,rfl,G,k⟩:=h
  refine⟨_,h_ (m_ (bt_ (g_ bw_) ["frame"] ["frame"] [0] rfl (O_ (l_ DC hr.mo (by rfl) (a_ (pv 0) (a_ (ixt (pv 0) e_) c_))))
   (fun cl C s H fp=>aD_) (fun cl C s H fp=>l_ DV hr (by rfl) (a_ (ixtK K rfl (pv 1) e_) (a_ (pv 0) c_))) (by decide +kernel))),?_⟩
  refine⟨_,rfl,_,rfl,_,_,_,_,rfl,rfl,SqT.of G.tp,rfl,g,a,c,b,ps,ws,c,ws,rfl,G,G.hw,fun p qs H2 s2 hp rows=>?_⟩
  have G2:=G.keep s2
  have hql:qs.length=ps.length:=by
   have e:qs.length=(Ma.cuts ps ws).length:=rows.length
   rw[e,Ma.M_]
  have l4:=G.ok.l4
  refine⟨p,rfl,⟨_,SqL.of hp⟩,ab_ (K:=K) (a:=p) (xs:=qs.map V.ref) (fun i ys H'=>∃ts,ys=ts.map V.ref/\ts.length=i/\Same H2 H'/\eu_ H' b ts ((Ma.cuts ps ws).take i))
   ⟨[],rfl,rfl,Same.refl _,.nil⟩ (fun i ys H' _ h=>by obtain⟨_,_,_,s',_⟩:=h;exact SqL.of (s' _ _ hp)) ?_ ?_⟩
  ·rintro i x ys H' hx ⟨ts,rfl,htl,s',wa⟩
   have hil:i<qs.length:=by have:=(List.getElem?_eq_some_iff.mp hx).1;simpa using this
   obtain⟨q,hq,rfl⟩:∃q:Addr,qs[i]?=some q/\x=.ref q:=by
    rw[List.getElem?_map] at hx
    cases e:qs[i]? with
    | none=>rw[e] at hx;cases hx
    | some d=>rw[e] at hx;exact⟨d,rfl,(Option.some.inj hx).symm⟩
   obtain⟨row,hj,hrow⟩:=dd_ rows hq
   refine⟨szl (by rw[List.length_map];lia),_,rfl,_,_,_,_,rfl,rfl,SqT.of (G2.keep s').tp,rfl,_,rfl,b,q,row,rfl,s' _ _ hrow,G.ok.b16,fun x hx=>G.ok.wr x (Ma.bF_ (List.mem_of_getElem? hj) x hx),Ma.aq_ (fun p hp=>(G.ok.pr p hp).2) (List.mem_of_getElem? hj),fun p' H3 gg np s3 hp3 hg=>⟨ts++[p'],by simp,by simp[htl],s'.trans s3,?_⟩⟩
   rw[List.take_add_one,hj]
   exact Paired.snoc (wa.keep s3) ⟨gg,hp3,hg⟩
  ·rintro ys H' ⟨ts,rfl,htl,s',wa⟩ l hl
   have e:(qs.map V.ref).length=(Ma.cuts ps ws).length:=by rw[List.length_map,Ma.M_];exact hql
   rw[e,List.take_length] at wa
   have sl:=f_ (o:=.lst (ts.map V.ref)) hl
   exact k l ts _ (s2.trans (s'.trans sl)) (s2.free (s'.free hl)) d_ (wa.keep sl)
theorem ec_:FnScope ["ways_by_part","total","many","ways"] ["ways_by_part","total"] (g_ dy_):=⟨rfl,rfl,rfl,by decide +kernel,rfl,by decide +kernel,by decide +kernel⟩
theorem hq_{f:Addr}{fd:FuncData}(F:Fun K "ways_with" "ways_with" dy_ f fd):FnOk P w K mg base CX0 1 f fd ["ways_by_part","total"] cw_:=by
 refine F.ok ec_ (fun vs H Q E h=>?_) (fun cdv A outer s H vs Q E hr h=>?_)
 ·obtain⟨p,qs,b,rows,t,rfl,_⟩:=h;rfl
 ·obtain⟨p,qs,b,rows,t,rfl,hp,wa,hb,hrs,k⟩:=h
  have nd:=ec_.nd
  have hu:=jL_ hr
  refine⟨_,b_ (j_ (i:=2) nd rfl (Or.inl rfl) e_)
   (b_ (V_ PassesOwn.never rfl (O_ (pv 0)) (p_ (i:=3) nd rfl (Or.inl rfl))
    (h_ (j_ (i:=2) nd rfl (Or.inl rfl) (n_ ad_ (pv 2) (df_ hu (pv 3) (pv 1) e_ ⟨rfl,rfl,rfl,rfl⟩)))))
   (h_ (m_ (pv 2)))),?_⟩
  refine⟨_,rfl,p,rfl,⟨_,SqL.of hp⟩,bc_ (K:=K) (a:=p) (xs:=qs.map V.ref) (fun i σ H'=>∃v3,σ=[some (.ref p),some (.int t),some (.int (Me.prodW b (rows.take i) t)),v3]/\H=H')
   ⟨none,rfl,rfl⟩ (fun i σ H' _ h=>by obtain⟨_,_,e⟩:=h;rw[<-e];exact SqL.of hp) ?_ ?_⟩
  ·rintro i x σ H' hx ⟨v3,rfl,rfl⟩
   obtain⟨q,hq,rfl⟩:∃q:Addr,qs[i]?=some q/\x=.ref q:=by
    rw[List.getElem?_map] at hx
    cases e:qs[i]? with
    | none=>rw[e] at hx;cases hx
    | some d=>rw[e] at hx;exact⟨d,rfl,(Option.some.inj hx).symm⟩
   obtain⟨row,hj,g,hg,perm⟩:=dd_ wa hq
   obtain⟨hw,hl⟩:=hrs row (List.mem_of_getElem? hj)
   have wok:=Me.cV_ (b:=b) hw hb
   obtain⟨v0,v1⟩:=Me.hS_ (b:=b) hb hl t
   have elk:=Me.gj_ perm wok.nd t
   have cm:CMul (Me.prodW b (rows.take i) t) ((Me.look g t).getD 0):=by rw[elk];exact .inr ⟨by lia,by lia⟩
   refine⟨_,rfl,_,rfl,q,rfl,.inl ⟨_,hg⟩,_,rfl,_,av_ hg,Me.prodW b (rows.take i) t,(Me.look g t).getD 0,rfl,di_ _,cm,some (.ref q),?_,rfl⟩
   rw[Me.jo_ hj,<-elk]
   rfl
  ·rintro σ H' ⟨v3,rfl,rfl⟩
   have e:(qs.map V.ref).length=rows.length:=by rw[List.length_map];exact wa.length
   rw[e,List.take_length]
   exact⟨_,rfl,k⟩
end
def eI_:Sp:=fun vs H Q _=>∃f a c b ps ws,vs=[.ref f]/\FrAt H f a c b ps ws/\∀(p:Addr) (g:List (Int×Int)) (H':Hp),H p=none->Same H H'->H' p=some (.dK (intsD g))->
 (∃row,(Ma.cuts ps ws)[0]?=some row/\g.Perm (Me.evenL b (Ma.cuts ps ws) (Me.keys (Me.waysW b row))))->Q (.ref p) H'
theorem kO_{H:Hp}{f a c:Addr}{b:Nat}{ps:List Nat}{ws:List Int}(G:FrAt H f a c b ps ws):∀row∈Ma.cuts ps ws,(∀x∈row,-9<=x/\x<=9)/\row.length<=6 :=
 fun row hr=>⟨fun x hx=>G.ok.wr x (Ma.bF_ hr x hx),Ma.aq_ (fun p hp=>(G.ok.pr p hp).2) hr⟩
section
variable{P:Program}{w:World}{K:PySem.W.Frag}{mg:Str->Option Value}{base:Heap}
theorem in_:FnScope ["frame","ways_by_part","even","total","many"] ["frame"] (g_ he_):=⟨rfl,rfl,rfl,by decide +kernel,rfl,by decide +kernel,by decide +kernel⟩
theorem lm_{f:Addr}{fd:FuncData}(F:Fun K "even_by_sums" "even_by_sums" he_ f fd)(D5:Def P w K mg base 5 "need_frame" ["thing"] K_)(DP:Def P w K mg base 3 "ways_of_parts" ["frame"] aT_)
  (DW:Def P w K mg base 1 "ways_with" ["ways_by_part","total"] cw_):FnOk P w K mg base CX0 6 f fd ["frame"] eI_:=by
 refine F.ok in_ (fun vs H Q E h=>?_) (fun cdv A outer s H vs Q E hr h=>?_)
 ·obtain⟨g,a,c,b,ps,ws,rfl,_⟩:=h;rfl
 ·obtain⟨g,a,c,b,ps,ws,rfl,G,k⟩:=h
  have nd:=in_.nd
  have hu:=jL_ hr
  refine⟨_,b_ (I_ (l_ D5 hr (by rfl) (a_ (pv 0) c_)))
   (b_ (j_ (i:=1) nd rfl (Or.inl rfl) (l_ DP hr.mo (by rfl) (a_ (pv 0) c_)))
   (b_ (j_ (i:=2) nd rfl (Or.inl rfl) de_)
   (b_ (V_ PassesOwn.never rfl (hk_ (ixl (pv 1) e_)) (p_ (i:=3) nd rfl (Or.inl rfl))
    (b_ (j_ (i:=4) nd rfl (Or.inl rfl) (l_ DW hr.mo (by rfl) (a_ (pv 1) (a_ (pv 3) c_))))
    (h_ (F_ (s_ jr_ (pv 4) e_ (nomark _)) (h_ (hi_ hu (pv 2) (pv 3) (pv 4) rfl)) q_))))
   (eT_ (h_ (m_ (pv 2))))))),?_⟩
  refine⟨_,rfl,g,a,c,b,ps,ws,rfl,G,fun H1 s1=>?_⟩
  have G1:=G.keep s1
  refine⟨_,rfl,g,a,c,b,ps,ws,rfl,G1,fun p qs H2 s2 hp hp2 wa=>?_⟩
  intro l hl
  obtain⟨row,hrow⟩:∃row,(Ma.cuts ps ws)[0]?=some row:=⟨(Ma.cuts ps ws)[0]'(by rw[Ma.M_];have:=G.ok.l2;lia),by simp⟩
  obtain⟨q,hq⟩:∃q,qs[0]?=some q:=⟨qs[0]'(by have e:qs.length=(Ma.cuts ps ws).length:=wa.length;rw[e,Ma.M_];have:=G.ok.l2;lia),by simp⟩
  obtain⟨row',hrow',g0,hg0,perm⟩:=dd_ wa hq
  have er:row'=row:=by rw[hrow] at hrow';exact(Option.some.inj hrow').symm
  subst er
  obtain⟨hw0,hl0⟩:=kO_ G row' (List.mem_of_getElem? hrow)
  have wok:=Me.cV_ (b:=b) hw0 G.ok.b16
  have wln:=Me.Ok.len (m:=135*row'.length) (by push_cast at wok⊢;exact wok)
  have nd0:(Me.keys g0).Nodup:=(perm.map _).nodup_iff.mpr wok.nd
  have hgl:g0.length<=2000:=by rw[perm.length_eq];lia
  have s3:Same H2 (upd H2 l (.dK [])):=f_ hl
  have hql:q≠l:=k_ hg0 hl
  have hpl:p≠l:=k_ hp2 hl
  have hqp:q≠p:=pu_ hg0 hp2 (by intro z;cases z)
  have l3:(upd H2 l (.dK [])) l=some (.dK (intsD [])):=d_
  generalize upd H2 l (.dK [])=H3 at s3 l3⊢
  have q3:=s3 _ _ hg0
  have p3:=s3 _ _ hp2
  have at0:atI (qs.map V.ref) 0=some (.ref q):=aJ_ (j:=0) (by rw[List.getElem?_map,hq];rfl)
  refine⟨_,rfl,p,_,0,.ref q,rfl,rfl,SqL.of p3,at0,q,intsD g0,rfl,q3,fun o=>fn_ (fun i σ H'=>∃v3 v4,σ=[some (.ref g),some (.ref p),some (.ref l),v3,v4]/\H' q=some (.frz o (.dK (intsD g0)))/\(∀x ob,x≠q->x≠l->H3 x=some ob->H' x=some ob)/\H' l=some (.dK (intsD (Me.evenL b (Ma.cuts ps ws) ((Me.keys g0).take i)))))
   ⟨none,none,rfl,d_,fun x ob hx _ e=>by rw[i_ hx];exact e,by rw[i_ hql.symm,l3];rfl⟩ (fun i σ H' _ h=>by obtain⟨_,_,_,z,_⟩:=h;exact z) ?_ ?_⟩
  ·rintro i kk v σ H' hk ⟨v3,v4,rfl,fq,kp,hl'⟩
   obtain⟨pr,hpr,rfl,rfl⟩:=hH_ hk
   have hki:(Me.keys g0)[i]?=some pr.1:=by rw[Me.keys,List.getElem?_map,hpr];rfl
   have p':=kp p _ hqp.symm hpl p3
   have wr:oB_ H' b qs (Ma.cuts ps ws):=L2.Paired.mapP wa fun q1 row1 ⟨g1,e1,pm1⟩=>by
    by_cases e:q1=q
    ·subst e
     have eg:intsD g1=intsD g0:=by rw[e1] at hg0;injection hg0 with hg0;injection hg0
     exact⟨g1,.inr ⟨o,by rw[eg];exact fq⟩,pm1⟩
    ·exact⟨g1,.inl (kp q1 _ e (k_ e1 hl) (s3 _ _ e1)),pm1⟩
   have hlen:=Me.nt_ b (Ma.cuts ps ws) ((Me.keys g0).take i)
   have hlen2:((Me.keys g0).take i).length<=2000:=by
    rw[List.length_take,Me.keys,List.length_map];lia
   refine⟨_,rfl,_,rfl,p,qs,b,Ma.cuts ps ws,pr.1,rfl,p',wr,G.ok.b16,kO_ G,?_⟩
   refine⟨_,rfl,_,_,rfl,rfl,_,rfl,ite2 (fun h=>?_) (fun h=>?_)⟩
   ·have h':0<Me.prodW b (Ma.cuts ps ws) pr.1:=of_decide_eq_true h
    refine⟨_,rfl,_,rfl,_,rfl,l,_,rfl,dP_ hl' (by lia),_,_,rfl,?_,fun x ob h1 h2 e=>?_,?_⟩
    ·rw[i_ hql];exact fq
    ·rw[i_ h2];exact kp x ob h1 h2 e
    ·rw[d_,Me.nr_ nd0 hki h']
   ·have h':¬ 0<Me.prodW b (Ma.cuts ps ws) pr.1:=fun z=>h (decide_eq_true z)
    refine⟨_,_,rfl,fq,kp,?_⟩
    rw[Me.pG_ hki h']
    exact hl'
  ·rintro σ H' ⟨v3,v4,rfl,fq,kp,hl'⟩
   have el:(intsD g0).length=(Me.keys g0).length:=by rw[intsD,Me.keys,List.length_map,List.length_map]
   rw[el,List.take_length] at hl'
   have S3:=s1.trans (s2.trans s3)
   have lH:H l=none:=s1.free (s2.free hl)
   refine⟨q,o,intsD g0,fq,(fun o' u z=>?_),_,rfl,k l _ _ lH (fun x ob e=>?_) (by rw[i_ hql.symm];exact hl') ⟨row',hrow,Me.lN_ (perm.map _)⟩⟩
   ·have z':H q=some (.frz o' u):=z
    have:=S3 _ _ z'
    rw[q3] at this;cases this
   ·by_cases hx:x=q
    ·have:=S3 _ _ e
     rw[hx] at this
     rw[hx,d_,<-this,q3]
    ·rw[i_ hx];exact kp x ob hx (k_ e lH) (S3 _ _ e)
end
end Hv
namespace Me
abbrev gv(f:List (Int×Int))(k:Int):Int:=(look f k).getD 0
theorem fi_{k n j:Int}:∀ {f:List (Int×Int)},(keys f).Nodup->gv (addTo f k n) j=gv f j+if k=j then n else 0
 | [],_=>by
  by_cases e:k=j <;> simp[gv,addTo,put,look,e]
 | (a,x)::f,nd=>by
  have nd1:a∉keys f:=(List.nodup_cons.mp nd).1
  have nd2:(keys f).Nodup:=(List.nodup_cons.mp nd).2
  by_cases e:a=k
  ·subst e
   rw[fr_ nd1]
   by_cases h:a=j
   ·subst h
    rw[gv,gv,bE_,bE_,if_pos rfl]
    rfl
   ·rw[gv,gv,aO_ h,aO_ h,if_neg h]
    lia
  ·rw[dl_ e]
   by_cases h:a=j
   ·subst h
    rw[gv,gv,bE_,bE_,if_neg (fun z=>e z.symm)]
    show x=x+0
    lia
   ·have ih:=fi_ (k:=k) (n:=n) (j:=j) nd2
    rw[gv,gv,aO_ h,aO_ h]
    exact ih
theorem oq_{f:List (Int×Int)}{k n j:Int}(nd:(keys f).Nodup)(hn:0<=n):gv f j<=gv (addTo f k n) j:=by
 rw[fi_ nd]
 split <;> lia
theorem bd_{p:Int×Int}{w:Int}{acc:List (Int×Int)}(nd:(keys acc).Nodup):∀n:Nat,(keys (figs p w n acc)).Nodup
 | 0=>nd
 | n+1=>by rw[ai_];exact oA_ (bd_ nd n)
theorem hJ_{p:Int×Int}{w j:Int}{acc:List (Int×Int)}(nd:(keys acc).Nodup)(hp:0<=p.2):∀n:Nat,gv acc j<=gv (figs p w n acc) j
 | 0=>Int.le_refl _
 | n+1=>by
  rw[ai_]
  exact Int.le_trans (hJ_ nd hp n) (oq_ (bd_ nd n) hp)
theorem iZ_{p:Int×Int}{w:Int}{acc:List (Int×Int)}(nd:(keys acc).Nodup)(hp:0<=p.2):∀n:Nat,gv acc p.1+p.2<=gv (figs p w (n+1) acc) p.1
 | 0=>by
  rw[ai_]
  have e:p.1+((0:Nat):Int)*w=p.1:=by simp
  rw[e,fi_ (bd_ nd 0),if_pos rfl]
  exact Int.le_refl _
 | n+1=>by
  rw[ai_]
  exact Int.le_trans (iZ_ nd hp n) (oq_ (bd_ nd (n+1)) hp)
theorem ls_{b:Nat}{w j:Int}:∀ {f acc:List (Int×Int)},(keys acc).Nodup->(∀p∈f,0<=p.2)->gv acc j<=gv (f.foldl (fun acc p=>figs p w b acc) acc) j
 | [],_,_,_=>Int.le_refl _
 | p::f,acc,nd,h=>by
  rw[List.foldl_cons]
  exact Int.le_trans (hJ_ nd (h p (by simp)) b) (ls_ (bd_ nd b) fun q hq=>h q (by simp[hq]))
theorem iM_{b:Nat}{w:Int}{p:Int×Int}:∀ {f acc:List (Int×Int)},(keys acc).Nodup->(∀p∈f,0<=p.2)->p∈f->gv acc p.1+p.2<=gv (f.foldl (fun acc p=>figs p w (b+1) acc) acc) p.1
 | [],_,_,_,hp=>by simp at hp
 | q::f,acc,nd,h,hp=>by
  rw[List.foldl_cons]
  rcases List.mem_cons.mp hp with rfl | hp
  ·exact Int.le_trans (iZ_ nd (h p (by simp)) b) (ls_ (bd_ nd (b+1)) fun q hq=>h q (by simp[hq]))
  ·have h1:=hJ_ (w:=w) (j:=p.1) nd (h q (by simp)) (b+1)
   have h2:=iM_ (w:=w) (b:=b) (bd_ (p:=q) (w:=w) nd (b+1)) (fun q hq=>h q (by simp[hq])) hp
   lia
theorem op_{f:List (Int×Int)}{k:Int}(h:1<=gv f k):(k,gv f k)∈f:=by
 cases e:f.find? fun q=>decide (q.1=k) with
 | none =>
  have z:gv f k=0:=by rw[gv,look,e];rfl
  lia
 | some q =>
  have hq:=List.mem_of_find?_eq_some e
  have hk:q.1=k:=by simpa using List.find?_some e
  have z:gv f k=q.2:=by rw[gv,look,e];rfl
  rw[z,<-hk]
  exact hq
theorem fs_{b:Nat}:∀(ws:List Int) (f:List (Int×Int)) (t:Int),Tw f t->1<=gv f 0->1<=gv (ws.foldl (fun f w=>P_ f (b+1) w) f) 0
 | [],_,_,_,h=>h
 | w::ws,f,t,o,h=>by
  rw[List.foldl_cons]
  refine fs_ ws _ _ o.one ?_
  have:=iM_ (w:=w) (b:=b) (acc:=[]) (by simp[keys]) o.nn (op_ h)
  have e:gv [] 0=0:=rfl
  unfold P_
  have h2:gv f 0<=gv (f.foldl (fun acc p=>figs p w (b+1) acc) []) 0:=by
   have:=this
   simp only[e] at this
   lia
  lia
theorem ka_{b:Nat}(hb:1<=b)(ws:List Int):1<=gv (waysW b ws) 0:=by
 obtain⟨c,rfl⟩:∃c,b=c+1:=⟨b-1,by lia⟩
 exact fs_ ws [(0,1)] 1 ⟨by simp[keys],fun p hp=>by
  have:p=(0,1):=by simpa using hp
  rw[this];decide,rfl⟩ (by decide)
theorem oF_(b:Nat)(row:List Int)(t:Int):0<=(look (waysW b row) t).getD 0:=by
 have o:=ew_ b row
 cases e:(waysW b row).find? fun q=>decide (q.1=t) with
 | none=>rw[look,e];exact Int.le_refl _
 | some q=>rw[look,e];exact o.nn q (List.mem_of_find?_eq_some e)
theorem kS_{b:Nat}{t:Int}:∀(rows:List (List Int)) (m:Int),0<=m->0<=rows.foldl (fun m row=>m*(look (waysW b row) t).getD 0) m
 | [],_,h=>h
 | row::rows,m,h=>by
  rw[List.foldl_cons]
  exact kS_ rows _ (Int.mul_nonneg h (oF_ b row t))
theorem fP_{b:Nat}{t:Int}:∀(rows:List (List Int)),rows.foldl (fun m row=>m*(look (waysW b row) t).getD 0) 0=0
 | []=>rfl
 | row::rows=>by
  rw[List.foldl_cons,Int.zero_mul]
  exact fP_ rows
theorem co_{f:List (Int×Int)}{t:Int}(h:t∉keys f):look f t=none:=by
 cases e:f.find? fun q=>decide (q.1=t) with
 | none=>rw[look,e];rfl
 | some q =>
  exfalso
  exact h (List.mem_map.mpr ⟨q,List.mem_of_find?_eq_some e,by simpa using List.find?_some e⟩)
theorem kT_{b:Nat}{rows:List (List Int)}{row:List Int}{t:Int}(h:rows[0]?=some row)(ht:t∉keys (waysW b row)):prodW b rows t=0:=by
 cases rows with
 | nil=>cases h
 | cons r rows =>
  have e:r=row:=Option.some.inj h
  subst e
  unfold prodW
  rw[List.foldl_cons,co_ ht]
  exact fP_ rows
theorem if_{l m:List Int}(h:l.Perm m):l.sum=m.sum:=by
 induction h with
 | nil=>rfl
 | cons x _ ih=>rw[List.sum_cons,List.sum_cons,ih]
 | swap x y l=>simp only[List.sum_cons];lia
 | trans _ _ a b=>exact a.trans b
theorem mz_{f g:List (Int×Int)}(h:f.Perm g):tot f=tot g:=if_ (h.map _)
end Me
namespace Mq
def sm(f:Int->Int)(a:Int):Nat->Int
 | 0=>0
 | n+1=>sm f a n+f (a+n)
theorem fE_(f:Int->Int)(a:Int)(n:Nat):∀m:Nat,sm f a (n+m)=sm f a n+sm f (a+n) m
 | 0=>by simp[sm]
 | m+1=>by
  rw[<-Nat.add_assoc,sm,sm,fE_ f a n m]
  have e:a+((n+m:Nat):Int)=a+n+m:=by push_cast;lia
  rw[e]
  lia
theorem ak_{f:Int->Int}{a:Int}:∀ {n:Nat},(∀t,a<=t->t<a+n->f t=0)->sm f a n=0
 | 0,_=>rfl
 | n+1,h=>by
  rw[sm,ak_ (n:=n) fun t h1 h2=>h t h1 (by push_cast;lia),h (a+n) (by lia) (by push_cast;lia)]
  rfl
theorem am_{f g:Int->Int}{a:Int}:∀ {n:Nat},(∀t,a<=t->t<a+n->f t=g t)->sm f a n=sm g a n
 | 0,_=>rfl
 | n+1,h=>by
  rw[sm,sm,am_ (n:=n) fun t h1 h2=>h t h1 (by push_cast;lia),h (a+n) (by lia) (by push_cast;lia)]
theorem nQ_{f:Int->Int}{a h:Int}{n m:Nat}(hf:∀t,h<t->f t=0)(hn:h<a+n)(hm:h<a+m):sm f a n=sm f a m:=by
 have key:∀ {n m:Nat},n<=m->h<a+n->sm f a n=sm f a m:=fun {n m} hle hn=>by
  obtain⟨k,rfl⟩:=Nat.exists_eq_add_of_le hle
  rw[fE_,ak_ (f:=f) (a:=a+n) (n:=k) fun t h1 _=>hf t (by lia)]
  lia
 rcases Nat.le_total n m with z | z
 ·exact key z hn
 ·exact(key z hm).symm
theorem oO_{g:Int->Int}{a b:Int}{n m:Nat}(h1:a<=b)(h2:b+m<=a+n)(z1:∀t,a<=t->t<b->g t=0)(z2:∀t,b+m<=t->t<a+n->g t=0):sm g a n=sm g b m:=by
 obtain⟨k,rfl⟩:∃k:Nat,b=a+k:=⟨(b-a).toNat,by lia⟩
 obtain⟨r,rfl⟩:∃r:Nat,n=k+(m+r):=⟨n-k-m,by lia⟩
 rw[fE_,fE_,ak_ (f:=g) (a:=a) (n:=k) fun t h1 h2=>z1 t h1 h2,ak_ (f:=g) (a:=a+k+m) (n:=r) fun t h1 h2=>z2 t (by lia) (by push_cast;lia)]
 lia
def pr(fs:List (Int->Int))(a:Int)(n:Nat):Int:=fs.foldl (fun m f=>m*sm f a n) 1
theorem lK_{fs:List (Int->Int)}{a:Int}{n:Nat}:fs.foldl (fun m f=>m*sm f a n) 0=0:=by
 induction fs with
 | nil=>rfl
 | cons f r ih=>simpa using ih
theorem dD_{fs:List (Int->Int)}{a:Int}{n:Nat}{f:Int->Int}(hf:f∈fs)(h:sm f a n=0):pr fs a n=0:=by
 have key:∀(fs:List (Int->Int)) (c:Int),f∈fs->fs.foldl (fun m f=>m*sm f a n) c=0:=fun fs=>by
  induction fs with
  | nil=>intro c h;simp at h
  | cons q r ih =>
   intro c hq
   rcases List.mem_cons.mp hq with rfl | hq
   ·rw[List.foldl_cons,h,Int.mul_zero];exact lK_
   ·rw[List.foldl_cons];exact ih _ hq
 exact key fs 1 hf
theorem iy_{fs:List (Int->Int)}{a b:Int}{n m:Nat}(h:∀f∈fs,sm f a n=sm f b m):pr fs a n=pr fs b m:=by
 have key:∀(fs:List (Int->Int)) (c:Int),(∀f∈fs,sm f a n=sm f b m)->fs.foldl (fun m f=>m*sm f a n) c=fs.foldl (fun q f=>q*sm f b m) c:=fun fs=>by
  induction fs with
  | nil=>intro c _;rfl
  | cons q r ih =>
   intro c hq
   rw[List.foldl_cons,List.foldl_cons,hq q (by simp)]
   exact ih _ fun f hf=>hq f (by simp[hf])
 exact key fs 1 h
def gat(fs:List (Int->Int))(d:Nat)(t:Int):Int:=pr fs t (d+1)-pr fs (t+1) d
theorem pE_{fs:List (Int->Int)}{d r:Nat}{t low high:Int}(hs:∀f∈fs,∀u,high<u->f u=0)(ht:low<=t)(hr:(r:Int)=d\/(high-low<=r/\high-low<=d)):gat fs d t=gat fs r t:=by
 rcases hr with hr | ⟨h1,h2⟩
 ·rw[show d=r by lia]
 ·unfold gat
  rw[iy_ (fs:=fs) (a:=t) (b:=t) (n:=d+1) (m:=r+1) fun f hf=>nQ_ (h:=high) (hs f hf) (by push_cast;lia) (by push_cast;lia),
   iy_ (fs:=fs) (a:=t+1) (b:=t+1) (n:=d) (m:=r) fun f hf=>nQ_ (h:=high) (hs f hf) (by push_cast;lia) (by push_cast;lia)]
theorem rb_{fs:List (Int->Int)}{d:Nat}{t last:Int}{f:Int->Int}(hf:f∈fs)(h:∀u,last<u->f u=0)(ht:last<t):gat fs d t=0:=by
 unfold gat
 rw[dD_ hf (ak_ fun u h1 _=>h u (by lia)),dD_ hf (ak_ fun u h1 _=>h u (by lia))]
 rfl
theorem rc_{fs:List (Int->Int)}{d:Nat}{t l:Int}{f:Int->Int}(hf:f∈fs)(h:∀u,u<l->f u=0)(ht:t+d<l):gat fs d t=0:=by
 unfold gat
 rw[dD_ hf (ak_ fun u _ h2=>h u (by push_cast at h2;lia)),dD_ hf (ak_ fun u _ h2=>h u (by push_cast at h2;lia))]
 rfl
theorem pt_{fs:List (Int->Int)}{d:Nat}{low high maxl ming:Int}{fl fg:Int->Int}(hs:∀f∈fs,∀u,high<u->f u=0)(hl:fl∈fs)(hl':∀u,u<maxl->fl u=0)(hg:fg∈fs)(hg':∀u,ming<u->fg u=0)
  (o1:low<=maxl) (o2:ming<=high) (o3:low<=high) (o4:low<=ming) (o5:maxl<=high) {r:Nat} (hr:(r:Int)=if high-low<d then high-low else d) {first:Int} (hfirst:first=if maxl-r>low then maxl-r else low) :
  sm (gat fs d) low (high-low+1).toNat=sm (gat fs r) first (ming-first+1).toNat:=by
 have hr2:(r:Int)=d\/(high-low<=r/\high-low<=d):=by split at hr <;> lia
 have e:sm (gat fs d) low (high-low+1).toNat=sm (gat fs r) low (high-low+1).toNat:=am_ fun t h1 _=>pE_ hs h1 hr2
 rw[e]
 have up:∀t,ming<t->gat fs r t=0:=fun t h=>rb_ hg hg' h
 have dn:∀t,t+r<maxl->gat fs r t=0:=fun t h=>rc_ hl hl' h
 have f1:low<=first:=by rw[hfirst];split <;> lia
 have f2:∀t,low<=t->t<first->t+r<maxl:=fun t a b=>by rw[hfirst] at b;split at b <;> lia
 by_cases hc:first<=ming+1
 ·exact oO_ f1 (by lia) (fun t a b=>dn t (f2 t a b)) fun t a b=>up t (by lia)
 ·rw[ak_ (f:=gat fs r) (a:=low) fun t a b=>?_,ak_ (f:=gat fs r) (a:=first) fun t a b=>up t (by lia)]
  by_cases q:t<first
  ·exact dn t (f2 t a q)
  ·exact up t (by lia)
end Mq
namespace Me
def fw(b:Nat)(row:List Int):Int->Int:=fun t=>gv (waysW b row) t
def fws(b:Nat)(rows:List (List Int)):List (Int->Int):=rows.map (fw b)
def loW(b:Nat)(row:List Int):Int:=Ma.minL (keys (waysW b row))
def hiW(b:Nat)(row:List Int):Int:=Ma.maxL (keys (waysW b row))
def los(b:Nat)(rows:List (List Int)):List Int:=rows.map (loW b)
def his(b:Nat)(rows:List (List Int)):List Int:=rows.map (hiW b)
def nearV(b:Nat)(rows:List (List Int))(d:Nat):Int:=Mq.sm (Mq.gat (fws b rows) d) (Ma.minL (los b rows)) (Ma.maxL (his b rows)-Ma.minL (los b rows)+1).toNat
theorem hF_{b:Nat}(hb:1<=b)(row:List Int):0<(keys (waysW b row)).length:=by
 have h:=op_ (ka_ hb row)
 have:(0:Int)∈keys (waysW b row):=List.mem_map.mpr ⟨_,h,rfl⟩
 exact List.length_pos_of_mem this
theorem qm_{f:Int->Int}(h:∀t,0<=f t/\f t<=16777216)(a:Int):∀n:Nat,0<=Mq.sm f a n/\Mq.sm f a n<=16777216*n
 | 0=>⟨Int.le_refl _,Int.le_refl _⟩
 | n+1=>by
  have ih:=qm_ h a n
  have:=h (a+n)
  simp only[Mq.sm]
  push_cast
  lia
end Me
namespace Me
structure DOk(g:List (Int×Int)):Prop where
 ne:0<(keys g).length
 nd:(keys g).Nodup
 bd:∀k∈keys g,-810<=k/\k<=810
 val:∀t,0<=gv g t/\gv g t<=16777216
def losG(gs:List (List (Int×Int))):List Int:=gs.map fun g=>Ma.minL (keys g)
def hisG(gs:List (List (Int×Int))):List Int:=gs.map fun g=>Ma.maxL (keys g)
def fG(gs:List (List (Int×Int))):List (Int->Int):=gs.map fun g t=>gv g t
def nearG(gs:List (List (Int×Int)))(d:Nat):Int:=Mq.sm (Mq.gat (fG gs) d) (Ma.minL (losG gs)) (Ma.maxL (hisG gs)-Ma.minL (losG gs)+1).toNat
theorem rw_{g:List (Int×Int)}(o:DOk g){t:Int}(h:t<Ma.minL (keys g)):gv g t=0:=by
 have n:t∉keys g:=fun z=>by
  have:=(Ma.w_ _ o.ne).2 t z
  lia
 unfold gv
 rw[co_ n]
 rfl
theorem ra_{g:List (Int×Int)}(o:DOk g){t:Int}(h:Ma.maxL (keys g)<t):gv g t=0:=by
 have n:t∉keys g:=fun z=>by
  have:=(Ma.y_ _ o.ne).2 t z
  lia
 unfold gv
 rw[co_ n]
 rfl
theorem lohi{g:List (Int×Int)}(o:DOk g) : -810<=Ma.minL (keys g)/\Ma.minL (keys g)<=Ma.maxL (keys g)/\Ma.maxL (keys g)<=810:=by
 have h1:=o.bd _ (Ma.w_ _ o.ne).1
 have h2:=o.bd _ (Ma.y_ _ o.ne).1
 have h3:=(Ma.w_ _ o.ne).2 _ (Ma.y_ _ o.ne).1
 lia
theorem hP_{gs:List (List (Int×Int))}(hne:0<gs.length)(hg:∀g∈gs,DOk g) :
  -810<=Ma.minL (losG gs)/\Ma.minL (losG gs)<=Ma.maxL (losG gs)/\Ma.maxL (losG gs)<=Ma.maxL (hisG gs)/\Ma.minL (losG gs)<=Ma.minL (hisG gs)/\Ma.minL (hisG gs)<=Ma.maxL (hisG gs)/\Ma.maxL (hisG gs)<=810:=by
 have nl:0<(losG gs).length:=by rw[losG,List.length_map];exact hne
 have nh:0<(hisG gs).length:=by rw[hisG,List.length_map];exact hne
 obtain⟨m1,m2⟩:=Ma.w_ _ nl
 obtain⟨m3,m4⟩:=Ma.y_ _ nl
 obtain⟨m5,m6⟩:=Ma.w_ _ nh
 obtain⟨m7,m8⟩:=Ma.y_ _ nh
 obtain⟨rl,hrl,erl⟩:=List.mem_map.mp m3
 obtain⟨rg,hrg,erg⟩:=List.mem_map.mp m5
 obtain⟨r1,hr1,er1⟩:=List.mem_map.mp m1
 obtain⟨r7,hr7,er7⟩:=List.mem_map.mp m7
 have a1:=lohi (hg r1 hr1)
 have a2:=lohi (hg rl hrl)
 have a3:=lohi (hg rg hrg)
 have a4:=lohi (hg r7 hr7)
 have b1:=m8 _ (List.mem_map.mpr ⟨rl,hrl,rfl⟩)
 have b2:=m2 _ (List.mem_map.mpr ⟨rg,hrg,rfl⟩)
 exact⟨by lia,m2 _ m3,by lia,by lia,m6 _ m7,by lia⟩
theorem jC_{gs:List (List (Int×Int))}(hne:0<gs.length)(hg:∀g∈gs,DOk g){d r:Nat}{first:Int}(hr:(r:Int)=if Ma.maxL (hisG gs)-Ma.minL (losG gs)<d then Ma.maxL (hisG gs)-Ma.minL (losG gs) else d)
  (hf:first=if Ma.maxL (losG gs)-r>Ma.minL (losG gs) then Ma.maxL (losG gs)-r else Ma.minL (losG gs)) :
  Mq.sm (Mq.gat (fG gs) r) first (Ma.minL (hisG gs)-first+1).toNat=nearG gs d:=by
 have nl:0<(losG gs).length:=by rw[losG,List.length_map];exact hne
 have nh:0<(hisG gs).length:=by rw[hisG,List.length_map];exact hne
 have B:=hP_ hne hg
 obtain⟨m1,m2⟩:=Ma.w_ _ nl
 obtain⟨m3,m4⟩:=Ma.y_ _ nl
 obtain⟨m5,m6⟩:=Ma.w_ _ nh
 obtain⟨m7,m8⟩:=Ma.y_ _ nh
 obtain⟨rl,hrl,erl⟩:=List.mem_map.mp m3
 obtain⟨rg,hrg,erg⟩:=List.mem_map.mp m5
 unfold nearG
 exact(Mq.pt_ (fs:=fG gs) (fl:=fun t=>gv rl t) (fg:=fun t=>gv rg t) (fun f hf u hu=>by
   obtain⟨g,hgm,rfl⟩:=List.mem_map.mp hf
   exact ra_ (hg g hgm) (by have:=m8 _ (List.mem_map.mpr ⟨g,hgm,rfl⟩);lia))
  (List.mem_map.mpr ⟨rl,hrl,rfl⟩) (fun u hu=>rw_ (hg rl hrl) (by lia)) (List.mem_map.mpr ⟨rg,hrg,rfl⟩) (fun u hu=>ra_ (hg rg hrg) (by lia)) (by lia) (by lia) (by lia) (by lia) (by lia) hr hf).symm
end Me
namespace L2
open PySem PySem.Spec PyProof.Rows
section
variable{X:Cx}{tg:Expr}
end
section
variable{X:Cx}
theorem fk_{P:Program}{w:World}{vs:List (Key×Value)}{ns:List Int}(hk:vs.map (·.1)=ns.map Sum.inl){i:Nat}{v:Value}(h:∃k x,vs[i]?=some (k,x)/\(u_ P w).is k v=true):∃n t,ns[i]?=some n/\v=Value.int n t:=by
 obtain⟨k,x,h1,h2⟩:=h
 have h3:(vs.map (·.1))[i]?=some k:=by rw[List.getElem?_map,h1];rfl
 rw[hk,List.getElem?_map] at h3
 cases q:ns[i]? with
 | none=>rw[q] at h3;cases h3
 | some m =>
  rw[q] at h3
  have h4:Sum.inl m=k:=Option.some.inj h3
  subst h4
  have h5:keyIs (Sum.inl m) v=true:=h2
  rcases x_ h5 with⟨i',t,e1,e2⟩ | ⟨y,t,e1,_⟩
  ·cases e1;exact⟨m,t,rfl,e2⟩
  ·cases e1
theorem ml_(hc:X.calm=true):CallR X (.builtin "max") (fun xs H Q=>∃(a:Addr) (kvs:List (Key×V)) (ns:List Int),xs=[.ref a]/\Rd H a (.dK kvs)/\kvs.map (·.1)=ns.map Sum.inl/\0<ns.length/\Q (.int (Ma.maxL ns)) H):=by
 intro pins s σ H xs us Q I r h
 obtain⟨a,kvs,ns,rfl,e,hk,hne,q⟩:=h
 obtain⟨u,rfl,ru⟩:=vals1 r
 cases ru
 obtain⟨z,hd,vs,rel,o,es,ep,ho,dd⟩:=gt_ I.hok e
 have hkv:vs.map (·.1)=ns.map Sum.inl:=by rw[<-rel.keys];exact hk
 have hn:vs.length=ns.length:=by simpa using congrArg List.length hkv
 have KS:=PySem.W.kdl_dict (prog:=X.prog) (w:=X.w) (ep:=ep) (kvs:=vs) (knd:=u_ X.prog X.w) hd
 have hval:∀(i:Nat) (v:Value),(∃k x,vs[i]?=some (k,x)/\(u_ X.prog X.w).is k v=true)->∃t,v=.int ((fun i=>(ns[i]?).getD 0) i) t:=fun i v hP=>by
  obtain⟨n,t,e,rfl⟩:=fk_ hkv hP
  exact⟨t,by simp[e]⟩
 obtain⟨oI,St,hit,W,st⟩:=KS.iter X.A.in1 s (I.ok.hd hc) ⟨o,es,ho,dd⟩
 refine call_max_walk (hit _ _ ?_)
 refine⟨_,_,_,_,_,_,_,rfl,W,st,fun b hb'=>?_,by omega,CmpOf.ints_gt (fun i=>(ns[i]?).getD 0) hval,fun v h' tk hP hk=>?_⟩
 ·show b<(s.heap.push _).objs.size
  rw[Heap.size_push]
  rcases List.mem_cons.mp hb' with rfl | hb'
  ·exact Nat.lt_succ_self _
  ·rw[List.mem_singleton.mp hb'];exact Nat.lt_succ_of_lt (Heap.lt_size ho)
 ·rw[hn] at hP
  have ab:=argBest_gt (fun i=>(ns[i]?).getD 0) (ns.length-1)
  obtain⟨n,t,e,rfl⟩:=fk_ hkv hP
  have em:n=Ma.maxL ns:=Ma.dG_ (List.mem_of_getElem? e) fun m hm=>by
   obtain⟨j,hj⟩:=List.getElem?_of_mem hm
   have hjl:=(List.getElem?_eq_some_iff.mp hj).1
   have a2:=ab.2 j (by omega)
   simp only[hj,e,Option.getD_some] at a2
   exact a2
  subst em
  exact⟨.int _,H,I.kept (t':=tk) (h':=h') (fun b o e=>hk b o (fun hI=>absurd (Heap.lt_size e) (by rw[List.mem_singleton.mp hI];exact Nat.lt_irrefl _)) (Heap.get?_push_of_some _ e)),⟨_,rfl⟩,q⟩
theorem mk_(hc:X.calm=true):CallR X (.builtin "min") (fun xs H Q=>∃(a:Addr) (kvs:List (Key×V)) (ns:List Int),xs=[.ref a]/\Rd H a (.dK kvs)/\kvs.map (·.1)=ns.map Sum.inl/\0<ns.length/\Q (.int (Ma.minL ns)) H):=by
 intro pins s σ H xs us Q I r h
 obtain⟨a,kvs,ns,rfl,e,hk,hne,q⟩:=h
 obtain⟨u,rfl,ru⟩:=vals1 r
 cases ru
 obtain⟨z,hd,vs,rel,o,es,ep,ho,dd⟩:=gt_ I.hok e
 have hkv:vs.map (·.1)=ns.map Sum.inl:=by rw[<-rel.keys];exact hk
 have hn:vs.length=ns.length:=by simpa using congrArg List.length hkv
 have KS:=PySem.W.kdl_dict (prog:=X.prog) (w:=X.w) (ep:=ep) (kvs:=vs) (knd:=u_ X.prog X.w) hd
 have hval:∀(i:Nat) (v:Value),(∃k x,vs[i]?=some (k,x)/\(u_ X.prog X.w).is k v=true)->∃t,v=.int ((fun i=>(ns[i]?).getD 0) i) t:=fun i v hP=>by
  obtain⟨n,t,e,rfl⟩:=fk_ hkv hP
  exact⟨t,by simp[e]⟩
 obtain⟨oI,St,hit,W,st⟩:=KS.iter X.A.in1 s (I.ok.hd hc) ⟨o,es,ho,dd⟩
 refine call_min_walk (hit _ _ ?_)
 refine⟨_,_,_,_,_,_,_,rfl,W,st,fun b hb'=>?_,by omega,CmpOf.ints_lt (fun i=>(ns[i]?).getD 0) hval,fun v h' tk hP hk=>?_⟩
 ·show b<(s.heap.push _).objs.size
  rw[Heap.size_push]
  rcases List.mem_cons.mp hb' with rfl | hb'
  ·exact Nat.lt_succ_self _
  ·rw[List.mem_singleton.mp hb'];exact Nat.lt_succ_of_lt (Heap.lt_size ho)
 ·rw[hn] at hP
  have ab:=argBest_lt (fun i=>(ns[i]?).getD 0) (ns.length-1)
  obtain⟨n,t,e,rfl⟩:=fk_ hkv hP
  have em:n=Ma.minL ns:=Ma.dF_ (List.mem_of_getElem? e) fun m hm=>by
   obtain⟨j,hj⟩:=List.getElem?_of_mem hm
   have hjl:=(List.getElem?_eq_some_iff.mp hj).1
   have a2:=ab.2 j (by omega)
   simp only[hj,e,Option.getD_some] at a2
   exact a2
  subst em
  exact⟨.int _,H,I.kept (t':=tk) (h':=h') (fun b o e=>hk b o (fun hI=>absurd (Heap.lt_size e) (by rw[List.mem_singleton.mp hI];exact Nat.lt_irrefl _)) (Heap.get?_push_of_some _ e)),⟨_,rfl⟩,q⟩
end
end L2
namespace Hv
open PySem L2
def runs(f:Int->Int)(lo:Int)(n:Nat):List V:=(List.range (n+1)).map fun k=>V.int (Mq.sm f lo k)
theorem mF_(f:Int->Int)(lo:Int)(n:Nat):(runs f lo n).length=n+1:=by simp[runs]
theorem fM_(f:Int->Int)(lo:Int)(n:Nat):runs f lo (n+1)=runs f lo n++[.int (Mq.sm f lo (n+1))]:=by
 unfold runs
 rw[List.range_succ (n:=n+1),List.map_append]
 rfl
theorem kM_{f:Int->Int}{lo:Int}{n k:Nat}(h:k<=n):(runs f lo n)[k]?=some (.int (Mq.sm f lo k)):=by
 unfold runs
 rw[List.getElem?_map,List.getElem?_range (by lia)]
 rfl
theorem kL_(f:Int->Int)(lo:Int):∀n:Nat,atI (runs f lo n) (-1)=some (.int (Mq.sm f lo n))
 | 0=>dk_ [] (V.int (Mq.sm f lo 0))
 | n+1=>by rw[fM_];exact dk_ _ _
theorem pairG{α β:Type}{R:α->β->Prop}:∀ {as:List α} {bs:List β},Paired R as bs->∀ {i:Nat} {a:α},as[i]?=some a->∃b,bs[i]?=some b/\R a b
 | _,_,.cons h t,0,a,e=>by cases e;exact⟨_,rfl,h⟩
 | _,_,.cons h t,i+1,a,e=>by
  rw[List.getElem?_cons_succ] at e
  obtain⟨b,h1,h2⟩:=pairG t e
  exact⟨b,by rw[List.getElem?_cons_succ];exact h1,h2⟩
def do_:Sp:=fun vs H Q _=>∃(q:Addr) (g:List (Int×Int)) (lo hi:Int),vs=[.ref q,.int lo,.int hi]/\H q=some (.dK (intsD g))/\-5000<=lo/\lo<=5000/\-5000<=hi/\hi<=5000/\
 ∀r H',H r=none->Same H H'->H' r=some (.lst (runs (Me.gv g) lo (hi+1-lo).toNat))->Q (.ref r) H'
abbrev gE_(H:Hp)(lo:Int)(n:Nat)(rs:List Addr)(rows:List (List (Int×Int))):Prop:=Paired (fun r row=>H r=some (.lst (runs (fun t=>Me.gv row t) lo n))) rs rows
theorem gE_.keep{H H':Hp}{lo:Int}{n:Nat}{rs:List Addr}{rows:List (List (Int×Int))}(s:Same H H')(h:gE_ H lo n rs rows):gE_ H' lo n rs rows:=L2.Paired.mapP h fun q row e=>s _ _ e
abbrev WaysG(H:Hp)(qs:List Addr)(gs:List (List (Int×Int))):Prop:=Paired (fun q g=>H q=some (.dK (intsD g))) qs gs
theorem WaysG.keep{H H':Hp}{qs:List Addr}{gs:List (List (Int×Int))}(h:WaysG H qs gs)(s:Same H H'):WaysG H' qs gs:=L2.Paired.mapP h fun q g e=>s _ _ e
def eB_:Sp:=fun vs H Q _=>∃(p:Addr) (rs:List Addr) (rows:List (List (Int×Int))) (lo:Int) (n s e:Nat),vs=[.ref p,.int s,.int e]/\H p=some (.lst (rs.map V.ref))/\gE_ H lo n rs rows/\(∀row∈rows,Me.DOk row)/\n<=20000/\s<=e/\e<=n/\
 Q (.int (Mq.pr (Me.fG rows) (lo+s) (e-s))) H
section
variable{P:Program}{w:World}{K:PySem.W.Frag}{mg:Str->Option Value}{base:Heap}
theorem fG_:FnScope ["ways","low","high","counts","total"] ["ways","low","high"] (g_ eL_):=⟨rfl,rfl,rfl,by decide +kernel,rfl,by decide +kernel,by decide +kernel⟩
theorem jt_{f:Addr}{fd:FuncData}(F:Fun K "running_counts" "running_counts" eL_ f fd)(T:Txt mg):FnOk P w K mg base CX0 1 f fd ["ways","low","high"] do_:=by
 refine F.ok fG_ (fun vs H Q E h=>?_) (fun cdv A outer s H vs Q E hr h=>?_)
 ·obtain⟨q,g,lo,hi,rfl,_⟩:=h;rfl
 ·obtain⟨q,g,lo,hi,rfl,hq,a1,a2,a3,a4,k⟩:=h
  have nd:=fG_.nd
  have hu:=jL_ hr
  refine⟨_,b_ (j_ (i:=3) nd rfl (Or.inl rfl) (A_ (a_ e_ c_)))
   (b_ (V_ PassesOwn.never rfl (kW_ (by rfl) T.range (a_ (pv 1) (a_ (n_ C_ (pv 2) e_) c_))) (p_ (i:=4) nd rfl (Or.inl rfl))
    (h_ (I_ (fS_ PySem.F.plainAttrs_list PySem.F.slot_list_append PySem.F.type_list_append ah_ (pv 3) (a_ (n_ C_ (ixl (pv 3) (cj_ ax_ e_)) (df_ hu (pv 0) (pv 4) e_ ⟨rfl,rfl,rfl,rfl⟩)) c_)))))
   (h_ (m_ (pv 3)))),?_⟩
  refine⟨sz (by simp),fun r hr'=>?_⟩
  have s0:=f_ (o:=.lst [.int 0]) hr'
  refine⟨_,rfl,_,rfl,_,_,rfl,rfl,_,_,rfl,⟨by lia,by lia,by lia,by lia⟩,?_⟩
  refine Z_ (n:=(hi+1-lo).toNat) (fun i σ H2=>∃v4,σ=[some (.ref q),some (.int lo),some (.int hi),some (.ref r),v4]/\Same H H2/\H2 r=some (.lst (runs (Me.gv g) lo i))) ⟨none,rfl,s0,d_⟩ ?_ ?_
  ·rintro i σ H2 hi' ⟨v4,rfl,s2,h2⟩
   refine⟨_,rfl,.inl ⟨rfl,_,SqL.of h2⟩,_,rfl,1,rfl,?_⟩
   have e1:=kL_ (Me.gv g) lo i
   refine aI_ h2 e1 ⟨_,rfl,q,rfl,.inl ⟨_,.inl (s2 _ _ hq)⟩,_,rfl,_,av_ (.inl (s2 _ _ hq)),_,_,rfl,di_ _,⟨r,_,_,rfl,rfl,h2,szl (by rw[mF_];lia),_,rfl,D_ s2 hr',?_⟩⟩
   rw[d_,fM_]
   rfl
  ·rintro σ H2 ⟨v4,rfl,s2,h2⟩
   exact⟨_,rfl,k r H2 hr' s2 h2⟩
theorem refG{qs:List Addr}{i:Nat}{x:V}(hx:(qs.map V.ref)[i]?=some x):∃q:Addr,qs[i]?=some q/\x=.ref q:=by
 rw[List.getElem?_map] at hx
 cases e:qs[i]? with
 | none=>rw[e] at hx;cases hx
 | some d=>rw[e] at hx;exact⟨d,rfl,(Option.some.inj hx).symm⟩
theorem oP_(f:Int->Int)(lo:Int){s e:Nat}(h:s<=e):Mq.sm f lo e-Mq.sm f lo s=Mq.sm f (lo+s) (e-s):=by
 obtain⟨k,rfl⟩:=Nat.exists_eq_add_of_le h
 rw[Mq.fE_,Nat.add_sub_cancel_left]
 lia
theorem np_{rows:List (List (Int×Int))}{i:Nat}{row:List (Int×Int)}(h:rows[i]?=some row)(a:Int)(n:Nat):Mq.pr (Me.fG (rows.take (i+1))) a n=Mq.pr (Me.fG (rows.take i)) a n*Mq.sm (fun t=>Me.gv row t) a n:=by
 unfold Mq.pr Me.fG
 rw[List.take_add_one,h]
 simp
theorem il_:FnScope ["running_by_part","start","end","many","running"] ["running_by_part","start","end"] (g_ hb_):=⟨rfl,rfl,rfl,by decide +kernel,rfl,by decide +kernel,by decide +kernel⟩
theorem le_{f:Addr}{fd:FuncData}(F:Fun K "ways_within" "ways_within" hb_ f fd):FnOk P w K mg base CX0 1 f fd ["running_by_part","start","end"] eB_:=by
 refine F.ok il_ (fun vs H Q E h=>?_) (fun cdv A outer s H vs Q E hr h=>?_)
 ·obtain⟨p,rs,rows,lo,n,s,e,rfl,_⟩:=h;rfl
 ·obtain⟨p,rs,rows,lo,n,st,e,rfl,hp,ra,hrs,hn,hse,hen,k⟩:=h
  have nd:=il_.nd
  refine⟨_,b_ (j_ (i:=3) nd rfl (Or.inl rfl) e_)
   (b_ (V_ PassesOwn.never rfl (O_ (pv 0)) (p_ (i:=4) nd rfl (Or.inl rfl))
    (h_ (j_ (i:=3) nd rfl (Or.inl rfl) (n_ ad_ (pv 3) (n_ W_ (ixl (pv 4) (pv 2)) (ixl (pv 4) (pv 1)))))))
   (h_ (m_ (pv 3)))),?_⟩
  refine⟨_,rfl,p,rfl,⟨_,SqL.of hp⟩,bc_ (K:=K) (a:=p) (xs:=rs.map V.ref) (fun i σ H'=>∃v4,σ=[some (.ref p),some (.int st),some (.int e),some (.int (Mq.pr (Me.fG (rows.take i)) (lo+st) (e-st))),v4]/\H=H')
   ⟨none,rfl,rfl⟩ (fun i σ H' _ h=>by obtain⟨_,_,e⟩:=h;rw[<-e];exact SqL.of hp) ?_ ?_⟩
  ·rintro i x σ H' hx ⟨v4,rfl,rfl⟩
   obtain⟨q,hq,rfl⟩:∃q:Addr,rs[i]?=some q/\x=.ref q:=by
    rw[List.getElem?_map] at hx
    cases e:rs[i]? with
    | none=>rw[e] at hx;cases hx
    | some d=>rw[e] at hx;exact⟨d,rfl,(Option.some.inj hx).symm⟩
   obtain⟨row,hj,hrow⟩:=pairG ra hq
   have hl:=hrs row (List.mem_of_getElem? hj)
   have bd:=Me.qm_ (f:=fun t=>Me.gv row t) hl.val (lo+st) (e-st)
   refine⟨_,rfl,_,rfl,_,rfl,aI_ hrow (aJ_ (kM_ (by lia))) ⟨_,rfl,_,rfl,aI_ hrow (aJ_ (kM_ (by lia))) ⟨_,_,rfl,rfl,?_⟩⟩⟩
   dsimp only
   rw[oP_ _ _ hse]
   refine⟨_,_,rfl,rfl,.inr ⟨by lia,by lia⟩,some (.ref q),?_,rfl⟩
   rw[np_ hj]
   rfl
  ·rintro σ H' ⟨v4,rfl,rfl⟩
   have el:(rs.map V.ref).length=rows.length:=by rw[List.length_map];exact ra.length
   rw[el,List.take_length]
   exact⟨_,rfl,k⟩
def cZ_:Sp:=fun vs H Q _=>∃(p:Addr) (qs:List Addr) (rows:List (List (Int×Int))) (d:Nat),vs=[.ref p,.int d]/\H p=some (.lst (qs.map V.ref))/\WaysG H qs rows/\0<rows.length/\rows.length<=4/\(∀row∈rows,Me.DOk row)/\
 ∀H',Same H H'->Q (.int (Me.nearG rows d)) H'
theorem im_:FnScope ["ways_by_part","width","leasts","greatests","reach","first","last","running_by_part","count","start","end"] ["ways_by_part","width"] (g_ by_):=⟨rfl,rfl,rfl,by decide +kernel,rfl,by decide +kernel,by decide +kernel⟩
theorem lh_{f:Addr}{fd:FuncData}(F:Fun K "count_spread_within" "count_spread_within" by_ f fd)(T:Txt mg)(DR:Def P w K mg base 1 "running_counts" ["ways","low","high"] do_)(DW:Def P w K mg base 1 "ways_within" ["running_by_part","start","end"] eB_) :
  FnOk P w K mg base CX0 2 f fd ["ways_by_part","width"] cZ_:=by
 refine F.ok im_ (fun vs H Q E h=>?_) (fun cdv A outer s H vs Q E hr h=>?_)
 ·obtain⟨p,qs,rows,d,rfl,_⟩:=h;rfl
 ·obtain⟨p,qs,rows,d,rfl,hp,wa,hne,h4,hrs,k⟩:=h
  have nd:=im_.nd
  refine⟨_,b_ (eV_ (g_ by_) ["ways_by_part","width","leasts","greatests","reach","first","last","running_by_part","count","start","end"] [] [] (i:=2) nd rfl (Or.inl rfl) rfl (O_ (pv 0)) (fun cl C s H fp=>aD_) (fun cl C s H fp=>o_ (mk_ rfl) (by rfl) T.min boot_min (a_ (pv 0) c_)) (by decide +kernel) (by rfl))
   (b_ (eV_ (g_ by_) ["ways_by_part","width","leasts","greatests","reach","first","last","running_by_part","count","start","end"] [] [] (i:=3) nd rfl (Or.inl rfl) rfl (O_ (pv 0)) (fun cl C s H fp=>aD_) (fun cl C s H fp=>o_ (ml_ rfl) (by rfl) T.max boot_max (a_ (pv 0) c_)) (by decide +kernel) (by rfl))
   (b_ (j_ (i:=4) nd rfl (Or.inr rfl) (o_ (gw_ rfl) (by rfl) T.min boot_min (a_ (pv 1) (a_ (n_ W_ (o_ (dQ_ rfl) (by rfl) T.max boot_max (a_ (pv 3) c_)) (o_ (ct_ rfl) (by rfl) T.min boot_min (a_ (pv 2) c_))) c_))))
   (b_ (j_ (i:=5) nd rfl (Or.inr rfl) (o_ (gx_ rfl) (by rfl) T.max boot_max (a_ (o_ (ct_ rfl) (by rfl) T.min boot_min (a_ (pv 2) c_)) (a_ (n_ W_ (o_ (dQ_ rfl) (by rfl) T.max boot_max (a_ (pv 2) c_)) (pv 4)) c_))))
   (b_ (j_ (i:=6) nd rfl (Or.inr rfl) (o_ (ct_ rfl) (by rfl) T.min boot_min (a_ (pv 3) c_)))
   (b_ (eV_ (g_ by_) ["ways_by_part","width","leasts","greatests","reach","first","last","running_by_part","count","start","end"] ["first","last","reach"] [5,6,4] (i:=7) nd rfl (Or.inl rfl) rfl (O_ (pv 0)) (fun cl C s H fp=>aD_) (fun cl C s H fp=>l_ DR hr (by rfl) (a_ (pv 0) (a_ (pv 1) (a_ (n_ C_ (pv 2) (pv 3)) c_)))) (by decide +kernel) (by rfl))
   (b_ (j_ (i:=8) nd rfl (Or.inl rfl) e_)
   (b_ (V_ PassesOwn.never rfl (H_ (by rfl) T.range (a_ (n_ C_ (n_ W_ (pv 6) (pv 5)) e_) c_)) (p_ (i:=9) nd rfl (Or.inl rfl))
    (b_ (j_ (i:=10) nd rfl (Or.inl rfl) (n_ C_ (n_ C_ (pv 9) (pv 4)) e_))
    (h_ (qt_ (i:=8) nd rfl (Or.inl rfl) (n_ W_ (l_ DW hr (by rfl) (a_ (pv 7) (a_ (pv 9) (a_ (pv 10) c_)))) (l_ DW hr (by rfl) (a_ (pv 7) (a_ (n_ C_ (pv 9) e_) (a_ (pv 10) c_))))) qX_))))
   (h_ (m_ (pv 8)))))))))),?_⟩
  have hql:qs.length=rows.length:=wa.length
  refine⟨_,rfl,p,rfl,⟨_,SqL.of hp⟩,ab_ (K:=K) (a:=p) (xs:=qs.map V.ref) (fun i ys H2=>ys=(Me.losG (rows.take i)).map V.int/\H=H2) ⟨rfl,rfl⟩ (fun i ys H2 _ h=>by rw[<-h.2];exact SqL.of hp) ?_ ?_⟩
  ·rintro i x ys H2 hx ⟨rfl,rfl⟩
   obtain⟨q,hq,rfl⟩:=refG hx
   have hil:i<qs.length:=(List.getElem?_eq_some_iff.mp hq).1
   obtain⟨g,hj,hg⟩:=pairG wa hq
   have kl:=(hrs g (List.mem_of_getElem? hj)).ne
   refine⟨szl (by simp[Me.losG];lia),_,rfl,q,intsD g,Me.keys g,rfl,.inl hg,by simp[intsD,Me.keys],kl,?_,rfl⟩
   rw[List.take_add_one,hj]
   simp[Me.losG]
  rintro ys H2 ⟨rfl,rfl⟩ l1 h1
  rw[List.length_map,hql,List.take_length]
  have s1:=f_ (o:=.lst ((Me.losG rows).map V.int)) h1
  have u1:upd H l1 (.lst ((Me.losG rows).map V.int)) l1=some (.lst ((Me.losG rows).map V.int)):=d_
  generalize upd H l1 (.lst ((Me.losG rows).map V.int))=H1 at s1 u1⊢
  have hp1:=s1 _ _ hp
  have wa1:=wa.keep s1
  refine⟨_,rfl,p,rfl,⟨_,SqL.of hp1⟩,ab_ (K:=K) (a:=p) (xs:=qs.map V.ref) (fun i ys H2=>ys=(Me.hisG (rows.take i)).map V.int/\H1=H2) ⟨rfl,rfl⟩ (fun i ys H2 _ h=>by rw[<-h.2];exact SqL.of hp1) ?_ ?_⟩
  ·rintro i x ys H2 hx ⟨rfl,rfl⟩
   obtain⟨q,hq,rfl⟩:=refG hx
   have hil:i<qs.length:=(List.getElem?_eq_some_iff.mp hq).1
   obtain⟨g,hj,hg⟩:=pairG wa1 hq
   have kl:=(hrs g (List.mem_of_getElem? hj)).ne
   refine⟨szl (by simp[Me.hisG];lia),_,rfl,q,intsD g,Me.keys g,rfl,.inl hg,by simp[intsD,Me.keys],kl,?_,rfl⟩
   rw[List.take_add_one,hj]
   simp[Me.hisG]
  rintro ys H2 ⟨rfl,rfl⟩ l2 h2
  rw[List.length_map,hql,List.take_length]
  have s2:=s1.trans (f_ (o:=.lst ((Me.hisG rows).map V.int)) h2)
  have u2:upd H1 l2 (.lst ((Me.hisG rows).map V.int)) l2=some (.lst ((Me.hisG rows).map V.int)):=d_
  have u1':=f_ (o:=.lst ((Me.hisG rows).map V.int)) h2 _ _ u1
  generalize upd H1 l2 (.lst ((Me.hisG rows).map V.int))=H2 at s2 u2 u1'⊢
  have nl:0<(Me.losG rows).length:=by rw[Me.losG,List.length_map];exact hne
  have nh:0<(Me.hisG rows).length:=by rw[Me.hisG,List.length_map];exact hne
  have B:=Me.hP_ hne hrs
  obtain⟨B1,B2,B3,B4,B5,B6⟩:=B
  refine⟨_,rfl,_,rfl,l2,_,rfl,SqL.of u2,nh,_,rfl,l1,_,rfl,SqL.of u1',nl,_,_,rfl,rfl,_,_,rfl,?_⟩
  dsimp only
  obtain⟨r,hr'⟩:∃r:Nat,(r:Int)=if Ma.maxL (Me.hisG rows)-Ma.minL (Me.losG rows)<(d:Int) then Ma.maxL (Me.hisG rows)-Ma.minL (Me.losG rows) else (d:Int):=⟨(if Ma.maxL (Me.hisG rows)-Ma.minL (Me.losG rows)<(d:Int) then Ma.maxL (Me.hisG rows)-Ma.minL (Me.losG rows) else (d:Int)).toNat,by split <;> lia⟩
  rw[<-hr']
  have rb:(r:Int)<=1620:=by split at hr' <;> lia
  refine⟨_,rfl,l1,_,rfl,SqL.of u1',nl,_,rfl,l1,_,rfl,SqL.of u1',nl,_,rfl,_,_,rfl,rfl,_,_,rfl,?_⟩
  dsimp only
  generalize hf:(if Ma.maxL (Me.losG rows)-(r:Int)>Ma.minL (Me.losG rows) then Ma.maxL (Me.losG rows)-(r:Int) else Ma.minL (Me.losG rows))=first
  have fb : -2430<=first/\first<=810:=by rw[<-hf];split <;> lia
  refine⟨_,rfl,l2,_,rfl,SqL.of u2,nh,?_⟩
  generalize hg0:Ma.minL (Me.hisG rows)=last
  rw[hg0] at B4 B5
  have hp2:=s2 _ _ hp
  have wa2:=wa.keep s2
  obtain⟨n,hn⟩:∃n:Nat,n=(last+(r:Int)+1-first).toNat:=⟨_,rfl⟩
  refine⟨_,rfl,p,rfl,⟨_,SqL.of hp2⟩,ab_ (K:=K) (a:=p) (xs:=qs.map V.ref) (fun i ys H3=>∃ts,ys=ts.map V.ref/\ts.length=i/\Same H2 H3/\gE_ H3 first n ts (rows.take i))
   ⟨[],rfl,rfl,Same.refl _,.nil⟩ (fun i ys H3 _ h=>by obtain⟨_,_,_,s',_⟩:=h;exact SqL.of (s' _ _ hp2)) ?_ ?_⟩
  ·rintro i x ys H3 hx ⟨ts,rfl,htl,s3,ra⟩
   obtain⟨q,hq,rfl⟩:=refG hx
   have hil:i<qs.length:=(List.getElem?_eq_some_iff.mp hq).1
   obtain⟨g,hj,hg⟩:=pairG wa2 hq
   refine⟨szl (by rw[List.length_map];lia),_,rfl,_,rfl,_,rfl,_,rfl,_,_,rfl,rfl,q,g,first,last+(r:Int),rfl,s3 _ _ hg,by lia,by lia,by lia,by lia,fun r' H4 hr4 s4 h4=>?_⟩
   refine⟨ts++[r'],by simp,by simp[htl],s3.trans s4,?_⟩
   rw[List.take_add_one,hj]
   rw[<-hn] at h4
   exact Paired.snoc (ra.keep s4) h4
  rintro ys H3 ⟨ts,rfl,htl,s3,ra⟩ l3 h3
  rw[List.length_map,hql,List.take_length] at ra
  have s4:=(s2.trans s3).trans (f_ (o:=.lst (ts.map V.ref)) h3)
  have ra4:=ra.keep (f_ (o:=.lst (ts.map V.ref)) h3)
  have u3:upd H3 l3 (.lst (ts.map V.ref)) l3=some (.lst (ts.map V.ref)):=d_
  generalize upd H3 l3 (.lst (ts.map V.ref))=H4 at s4 ra4 u3⊢
  refine⟨_,rfl,_,rfl,_,_,rfl,rfl,_,_,rfl,rfl,_,rfl,by lia,by lia,?_⟩
  have en:(last-first+1).toNat=(Ma.minL (Me.hisG rows)-first+1).toNat:=by rw[hg0]
  refine Z_ (lo:=0) (n:=(last-first+1).toNat) (fun i σ H5=>∃v9 v10,σ=[some (.ref p),some (.int d),some (.ref l1),some (.ref l2),some (.int r),some (.int first),some (.int last),some (.ref l3),some (.int (Mq.sm (Mq.gat (Me.fG rows) r) first i)),v9,v10]/\H4=H5) ⟨none,none,?_,rfl⟩ ?_ ?_
  ·rfl
  ·rintro i σ H5 hi ⟨v9,v10,rfl,rfl⟩
   refine⟨_,rfl,_,rfl,_,_,rfl,rfl,_,_,rfl,rfl,?_⟩
   dsimp only
   refine⟨_,rfl,_,rfl,_,rfl,_,rfl,l3,ts,rows,first,n,i,i+r+1,?_,u3,ra4,hrs,by lia,by lia,by lia,?_⟩
   ·show[V.ref l3,V.int (0+(i:Int)),V.int (0+(i:Int)+(r:Int)+1)]=_
    rw[Int.zero_add]
    push_cast
    rfl
   refine⟨_,rfl,_,rfl,_,_,rfl,rfl,_,rfl,l3,ts,rows,first,n,i+1,i+r+1,?_,u3,ra4,hrs,by lia,by lia,by lia,?_⟩
   ·show[V.ref l3,V.int (0+(i:Int)+1),V.int (0+(i:Int)+(r:Int)+1)]=_
    rw[Int.zero_add]
    push_cast
    rfl
   refine⟨_,_,rfl,rfl,_,_,rfl,rfl,some (.int (0+(i:Int))),some (.int (0+(i:Int)+(r:Int)+1)),?_,rfl⟩
   have e1:i+r+1-i=r+1:=by lia
   have e2:i+r+1-(i+1)=r:=by lia
   have e3:first+((i+1:Nat):Int)=first+(i:Int)+1:=by push_cast;lia
   rw[e1,e2,e3]
   rfl
  ·rintro σ H5 ⟨v9,v10,rfl,rfl⟩
   refine⟨_,rfl,?_⟩
   rw[en,Me.jC_ hne hrs hr' hf.symm]
   exact k _ s4
end
end Hv
namespace Ma
def num(b:Nat)(ds:List Nat):Nat:=ds.foldl (fun x d=>x*b+d) 0
theorem nc_(b d:Nat)(l:List Nat):num b (l++[d])=num b l*b+d:=by
 unfold num
 rw[List.foldl_append]
 rfl
theorem iD_{b i d:Nat}{ds:List Nat}(h:ds[i]?=some d):num b (ds.take (i+1))=num b (ds.take i)*b+d:=by
 rw[List.take_add_one,h]
 exact nc_ b d _
def behind(b n L:Nat):Nat:=num b (dws b n L L).reverse
theorem pq_{b n L:Nat}(hb:0<b)(hn:n<b ^ L):num b (dws b n L L)=n:=by
 have:∀i,i<=L->num b ((dws b n L L).take i)=n / b ^ (L-i):=by
  intro i
  induction i with
  | zero=>intro _;rw[List.take_zero,Nat.sub_zero,Nat.div_eq_of_lt hn];rfl
  | succ i ih =>
   intro hi
   have hi':i<L:=hi
   have g:(dws b n L L)[i]?=some (n / b ^ (L-1-i) % b):=by simp[dws,hi']
   rw[iD_ g,ih (by lia)]
   have e1:L-i=(L-1-i)+1:=by lia
   have e2:L-(i+1)=L-1-i:=by lia
   rw[e1,e2,Nat.pow_succ,<-Nat.div_div_eq_div_mul,Nat.mul_comm]
   exact Nat.div_add_mod _ _
 have h:=this L (Nat.le_refl _)
 rw[Nat.sub_self,Nat.pow_zero,Nat.div_one,List.take_of_length_le (by rw[E_];exact Nat.le_refl _)] at h
 exact h
end Ma
namespace Hv
open PySem L2
theorem lr_{ds:List Nat}{i:Nat}{x:V}(h:(natV ds)[i]?=some x):∃y:Nat,ds[i]?=some y/\x=.int (y:Int):=by
 simp only[natV,List.getElem?_map] at h
 cases e:ds[i]? with
 | none=>rw[e] at h;cases h
 | some d=>rw[e] at h;exact⟨d,rfl,(Option.some.inj h).symm⟩
def cy_:Sp:=fun vs H Q _=>∃(b:Nat) (r:Addr) (ds:List Nat),vs=[.int b,.ref r]/\b<=16/\H r=some (.lst (natV ds))/\Q (.int ((Ma.num b ds:Nat):Int)) H
section
variable{P:Program}{w:World}{K:PySem.W.Frag}{mg:Str->Option Value}{base:Heap}
theorem ef_:FnScope ["base","figures","number","figure"] ["base","figures"] (g_ dz_):=⟨rfl,rfl,rfl,by decide +kernel,rfl,by decide +kernel,by decide +kernel⟩
theorem ht_{f:Addr}{fd:FuncData}(F:Fun K "number_of" "number_of" dz_ f fd):FnOk P w K mg base CX0 1 f fd ["base","figures"] cy_:=by
 refine F.ok ef_ (fun vs H Q E h=>?_) (fun cdv A outer s H vs Q E hr h=>?_)
 ·obtain⟨b,r,ds,rfl,_⟩:=h;rfl
 ·obtain⟨b,r,ds,rfl,hb,hd,k⟩:=h
  have nd:=ef_.nd
  refine⟨_,b_ (j_ (i:=2) nd rfl (Or.inl rfl) e_)
   (b_ (V_ PassesOwn.never rfl (O_ (pv 1)) (p_ (i:=3) nd rfl (Or.inl rfl)) (h_ (j_ (i:=2) nd rfl (Or.inl rfl) (n_ C_ (n_ ad_ (pv 2) (pv 0)) (pv 3)))))
   (h_ (m_ (pv 2)))),?_⟩
  refine⟨_,rfl,r,rfl,⟨_,SqL.of hd⟩,bc_ (K:=K) (a:=r) (xs:=natV ds) (fun i σ H'=>H=H'/\∃v3,σ=[some (.int b),some (.ref r),some (.int ((Ma.num b (ds.take i):Nat):Int)),v3])
   ⟨rfl,none,rfl⟩ (fun i σ H' _ h=>by rw[<-h.1];exact SqL.of hd) ?_ ?_⟩
  ·rintro i x σ H' hx ⟨rfl,v3,rfl⟩
   obtain⟨y,hy,rfl⟩:=lr_ hx
   refine⟨_,rfl,_,rfl,_,_,rfl,rfl,.inr ⟨by lia,by lia⟩,_,rfl,_,_,rfl,rfl,rfl,some (.int (y:Int)),?_⟩
   rw[Ma.iD_ hy]
   push_cast
   rfl
  ·rintro σ H' ⟨rfl,v3,rfl⟩
   refine⟨_,rfl,?_⟩
   have e:(natV ds).length=ds.length:=by simp[natV]
   rw[e,List.take_length]
   exact k
end
end Hv
namespace L2
open PySem PySem.Spec PyProof.Rows
abbrev IsTri(h:Heap)(T:Addr)(a b c:Value):Prop:=h.get? T=some {cls:=.type "tuple",data:=.seq #[a,b,c]}
theorem dV_(a b c:Value):checkTypeCall "zip" ⟨[a,b,c],[]⟩=pure ():=by kernel_rfl
theorem fg_(a b c:Value):checkBuiltinCall "zip.__new__" ⟨[.type "zip",a,b,c],[]⟩=pure ():=by kernel_rfl
theorem hQ_(a b c d:Value):argsOk "object.__init__" ⟨[a,b,c,d],[]⟩:=by
 unfold argsOk;rw[signature?_of (id:="object.__init__") (n:=['_','_','t','i','n','i','_','_']) (o:=['t','c','e','j','b','o']) (by kernel_rfl) F.owner_object];kernel_rfl
structure Zd(z TI TO i1 i2 i3 l1 l2 l3:Addr):Prop where
 nd:[z,TI,TO,i1,i2,i3].Nodup
 f1:l1∉[z,TO,i1,i2,i3]
 f2:l2∉[z,TO,i1,i2,i3]
 f3:l3∉[z,TO,i1,i2,i3]
section
variable{prog:Program}{w:World}{A:Around}{E:Value->Shared->Prop}{s:Shared}
theorem kc_{T:Addr}{a b c x:Value}{k:Nat}{Q:Unit->Shared->Prop}(hT:IsTri s.heap T a b c)
  (h:∀h',h'.get? T=some {cls:=.type "tuple",data:=.seq ((#[a,b,c]:Array Value).setIfInBounds k x)}->Heap.SameBut T s.heap h'->Q () {s with heap:=h'}) :
  wpAny (model prog w) A (updateSeq T (·.setIfInBounds k x)) Q E s:=by
 refine wpAny_updateSeq hT rfl (h _ ?_ (Heap.SameBut.update ..))
 rw[Heap.get?_update_self _ hT rfl]
 simp[Obj.mapSeq]
theorem jB_{z TI TO i1 i2 i3 l1 l2 l3:Addr}{k1 k2 k3:Nat}{xs ys zs:Array Value}{x y u a b c:Value}{Q:Value->Shared->Prop}(D:Zd z TI TO i1 i2 i3 l1 l2 l3)
  (hz:IsZip s.heap z TI TO .none) (hTI:IsTri s.heap TI (.ref i1) (.ref i2) (.ref i3)) (hTO:IsTri s.heap TO a b c)
  (h1:s.heap.IsListIter i1 l1 k1) (h2:s.heap.IsListIter i2 l2 k2) (h3:s.heap.IsListIter i3 l3 k3) (hl1:s.heap.IsList l1 xs) (hl2:s.heap.IsList l2 ys) (hl3:s.heap.IsList l3 zs) (hx:xs[k1]?=some x) (hy:ys[k2]?=some y) (hu:zs[k3]?=some u)
  (hQ:∀h',IsZip h' z TI TO (rawInt s.heap.objs.size)->IsTri h' TO x y u->h'.IsListIter i1 l1 (k1+1)->h'.IsListIter i2 l2 (k2+1)->h'.IsListIter i3 l3 (k3+1)->IsTri h' s.heap.objs.size x y u->h'.objs.size=s.heap.objs.size+1->
   (∀c o,c∉[z,TO,i1,i2,i3]->s.heap.get? c=some o->h'.get? c=some o)->Q (.ref s.heap.objs.size) {s with heap:=h'}) :
  wpAny (model prog w) A (Builtin.«zip.__next__» ⟨[.ref z],[]⟩) (fun fin s'=>∃v,fin=.done (.ret v)/\Q v s') E s:=by
 have nd:=D.nd
 simp only[List.nodup_cons,List.mem_cons,List.not_mem_nil,or_false,not_or,not_false_eq_true,List.nodup_nil,and_true] at nd
 obtain⟨⟨zTI,zTO,zi1,zi2,zi3⟩,⟨TITO,TIi1,TIi2,TIi3⟩,⟨TOi1,TOi2,TOi3⟩,⟨i12,i13⟩,i23⟩:=nd
 have f1:=D.f1
 have f2:=D.f2
 have f3:=D.f3
 simp only[List.mem_cons,List.not_mem_nil,or_false,not_or] at f1 f2 f3
 obtain⟨l1z,l1TO,l1i1,l1i2,l1i3⟩:=f1
 obtain⟨l2z,l2TO,l2i1,l2i2,l2i3⟩:=f2
 obtain⟨l3z,l3TO,l3i1,l3i2,l3i3⟩:=f3
 show wpAny _ _ (field (.ref z) 2>>=_) _ _ _
 refine wpAny_bind (wpAny_field hz rfl (x:=.bool false) rfl ?_)
 show wpAny _ _ (field (.ref z) 3>>=_) _ _ _
 refine wpAny_bind (wpAny_field hz rfl (x:=.ref TI) rfl ?_)
 refine wpAny_bind (wpAny_seqItems hTI rfl ?_)
 show wpAny _ _ (Builtin.SmallTypes.ownedTupleIsFree (.ref z)>>=_) _ _ _
 refine wpAny_bind ?_
 unfold Builtin.SmallTypes.ownedTupleIsFree
 refine wpAny_bind (wpAny_field hz rfl (x:=.none) rfl (wpAny_pure ?_))
 simp only[if_true]
 refine wpAny_bind (wpAny_rule ?_)
 refine wpAny_bind (wpAny_field hz rfl (x:=.ref TO) rfl ?_)
 refine wpAny_bind (wpAny_setField_rec hz (by simp) fun H1 hz1 s1=>?_)
 replace hz1:IsZip H1 z TI TO .ellipsis:=hz1
 refine wpAny_bind ?_
 simp only[List.zipIdx_cons,List.zipIdx_nil,List.forIn_cons,List.forIn_nil]
 refine wpAny_bind (wpAny_bind (wpAny_onRaise ?_))
 show wpAny _ _ (Builtin.SmallTypes.nextOf (.ref i1)>>=_) _ _ _
 refine wpAny_bind (wpAny_nextOf_list_item (h1.extBut s1.extBut (Ne.symm zi1)) (hl1.extBut s1.extBut l1z) hx fun H2 q2 s2=>wpAny_pure ?_)
 have t2:IsTri H2 TO a b c:=s2.extBut _ _ TOi1 (s1.extBut _ _ (Ne.symm zTO) hTO)
 refine wpAny_bind (wpAny_seqItems t2 rfl ?_)
 refine wpAny_bind (kc_ t2 fun H3 t3 s3=>?_)
 replace t3:IsTri H3 TO x b c:=t3
 refine wpAny_bind (wpAny_letGo (wpAny_pure ?_))
 refine wpAny_bind (wpAny_bind (wpAny_onRaise ?_))
 show wpAny _ _ (Builtin.SmallTypes.nextOf (.ref i2)>>=_) _ _ _
 have up3:∀c o,c≠z->c≠TO->c≠i1->s.heap.get? c=some o->H3.get? c=some o:=fun c o c1 c2 c3 e=>s3.extBut _ _ c2 (s2.extBut _ _ c3 (s1.extBut _ _ c1 e))
 refine wpAny_bind (wpAny_nextOf_list_item (h2.at fun o e=>up3 _ o (Ne.symm zi2) (Ne.symm TOi2) (Ne.symm i12) e) (Heap.IsList.at hl2 fun o e=>up3 _ o l2z l2TO l2i1 e) hy fun H4 q4 s4=>wpAny_pure ?_)
 have t4:IsTri H4 TO x b c:=s4.extBut _ _ TOi2 t3
 refine wpAny_bind (wpAny_seqItems t4 rfl ?_)
 refine wpAny_bind (kc_ t4 fun H5 t5 s5=>?_)
 replace t5:IsTri H5 TO x y c:=t5
 refine wpAny_bind (wpAny_letGo (wpAny_pure ?_))
 refine wpAny_bind (wpAny_bind (wpAny_onRaise ?_))
 show wpAny _ _ (Builtin.SmallTypes.nextOf (.ref i3)>>=_) _ _ _
 have up5:∀c o,c≠z->c≠TO->c≠i1->c≠i2->s.heap.get? c=some o->H5.get? c=some o:=fun c o c1 c2 c3 c4 e=>s5.extBut _ _ c2 (s4.extBut _ _ c4 (up3 c o c1 c2 c3 e))
 refine wpAny_bind (wpAny_nextOf_list_item (h3.at fun o e=>up5 _ o (Ne.symm zi3) (Ne.symm TOi3) (Ne.symm i13) (Ne.symm i23) e) (Heap.IsList.at hl3 fun o e=>up5 _ o l3z l3TO l3i1 l3i2 e) hu fun H6 q6 s6=>wpAny_pure ?_)
 have t6:IsTri H6 TO x y c:=s6.extBut _ _ TOi3 t5
 refine wpAny_bind (wpAny_seqItems t6 rfl ?_)
 refine wpAny_bind (kc_ t6 fun H7 t7 s7=>?_)
 replace t7:IsTri H7 TO x y u:=t7
 refine wpAny_bind (wpAny_letGo (wpAny_pure (wpAny_pure ?_)))
 refine wpAny_bind (wpAny_seqItems t7 rfl ?_)
 refine wpAny_bind (wpAny_newTuple ?_)
 have hsz:H7.objs.size=s.heap.objs.size:=by rw[s7.1,s6.1,s5.1,s4.1,s3.1,s2.1,s1.1]
 have z3:IsZip H3 z TI TO .ellipsis:=s3.extBut _ _ zTO (s2.extBut _ _ zi1 hz1)
 have z7:IsZip H7 z TI TO .ellipsis:=s7.extBut _ _ zTO (s6.extBut _ _ zi3 (s5.extBut _ _ zTO (s4.extBut _ _ zi2 z3)))
 have up7:∀c o,c∉[z,TO,i1,i2,i3]->s.heap.get? c=some o->H7.get? c=some o:=fun c o hc e=>by
  simp only[List.mem_cons,List.not_mem_nil,or_false,not_or] at hc
  obtain⟨c1,c2,c3,c4,c5⟩:=hc
  exact s7.extBut _ _ c2 (s6.extBut _ _ c5 (up5 c o c1 c2 c3 c4 e))
 have r1:H7.IsListIter i1 l1 (k1+1):=q2.at fun o e=>s7.extBut _ _ (Ne.symm TOi1) (s6.extBut _ _ i13 (s5.extBut _ _ (Ne.symm TOi1) (s4.extBut _ _ i12 (s3.extBut _ _ (Ne.symm TOi1) e))))
 have r2:H7.IsListIter i2 l2 (k2+1):=q4.at fun o e=>s7.extBut _ _ (Ne.symm TOi2) (s6.extBut _ _ i23 (s5.extBut _ _ (Ne.symm TOi2) e))
 have r3:H7.IsListIter i3 l3 (k3+1):=q6.at fun o e=>s7.extBut _ _ (Ne.symm TOi3) e
 have zlt:z<H7.objs.size:=Heap.lt_size z7
 show wpAny _ _ (Builtin.SmallTypes.ownedTupleHandOut (.ref z) (.ref H7.objs.size)>>=_) _ _ _
 refine wpAny_bind ?_
 unfold Builtin.SmallTypes.ownedTupleHandOut
 have z8:IsZip (H7.push {cls:=.type "tuple",data:=.seq #[x,y,u]}) z TI TO .ellipsis:=Heap.get?_push_of_some _ z7
 refine wpAny_bind (wpAny_setField_rec z8 (by simp) fun H8 w8 s8=>?_)
 replace w8:IsZip H8 z TI TO (rawInt H7.objs.size):=w8
 refine wpAny_setField_rec w8 (by simp) fun H9 w9 s9=>?_
 replace w9:IsZip H9 z TI TO (rawInt H7.objs.size):=w9
 have up:∀c o,c≠z->H7.get? c=some o->H9.get? c=some o:=fun c o c1 e=>s9.extBut _ _ c1 (s8.extBut _ _ c1 (Heap.get?_push_of_some _ e))
 have t9:IsTri H9 H7.objs.size x y u:=s9.extBut _ _ (Nat.ne_of_gt zlt) (s8.extBut _ _ (Nat.ne_of_gt zlt) (Heap.get?_push_size _ rfl))
 have zz:H9.objs.size=H7.objs.size+1:=by rw[s9.1,s8.1,Heap.size_push]
 rw[hsz] at w9 t9 zz
 refine wpAny_pure ⟨_,rfl,?_⟩
 show Q (.ref H7.objs.size) _
 rw[hsz]
 exact hQ H9 w9 (up _ _ (Ne.symm zTO) t7) (r1.at fun o e=>up _ o (Ne.symm zi1) e) (r2.at fun o e=>up _ o (Ne.symm zi2) e) (r3.at fun o e=>up _ o (Ne.symm zi3) e) t9 zz fun c o hc e=>up c o (fun q=>hc (by simp[q])) (up7 c o hc e)
end
section
variable{prog:Program}{w:World}{A:Around}{E:Value->Shared->Prop}{s:Shared}
theorem lp_{z TI TO i1 i2 i3 l1 l2 l3:Addr}{k1:Nat}{xs:Array Value}{a b c:Value}{Q:Fin->Shared->Prop}(hh:A.handled=none)(D:Zd z TI TO i1 i2 i3 l1 l2 l3)
  (hz:IsZip s.heap z TI TO .none) (hTI:IsTri s.heap TI (.ref i1) (.ref i2) (.ref i3)) (hTO:IsTri s.heap TO a b c)
  (h1:s.heap.IsListIter i1 l1 k1) (hl1:s.heap.IsList l1 xs) (hend:xs[k1]?=none)
  (hE:∀h' e,(∀c o,c∉[z,TO,i1,i2,i3]->s.heap.get? c=some o->h'.get? c=some o)->(∃o,h'.get? e=some o/\o.cls=.type "StopIteration")->E (.ref e) {s with heap:=h'}) :
  wpAny (model prog w) A (Builtin.«zip.__next__» ⟨[.ref z],[]⟩) Q E s:=by
 have nd:=D.nd
 simp only[List.nodup_cons,List.mem_cons,List.not_mem_nil,or_false,not_or,not_false_eq_true,List.nodup_nil,and_true] at nd
 obtain⟨⟨zTI,zTO,zi1,zi2,zi3⟩,⟨TITO,TIi1,TIi2,TIi3⟩,⟨TOi1,TOi2,TOi3⟩,⟨i12,i13⟩,i23⟩:=nd
 have f1:=D.f1
 simp only[List.mem_cons,List.not_mem_nil,or_false,not_or] at f1
 obtain⟨l1z,l1TO,l1i1,l1i2,l1i3⟩:=f1
 show wpAny _ _ (field (.ref z) 2>>=_) _ _ _
 refine wpAny_bind (wpAny_field hz rfl (x:=.bool false) rfl ?_)
 show wpAny _ _ (field (.ref z) 3>>=_) _ _ _
 refine wpAny_bind (wpAny_field hz rfl (x:=.ref TI) rfl ?_)
 refine wpAny_bind (wpAny_seqItems hTI rfl ?_)
 show wpAny _ _ (Builtin.SmallTypes.ownedTupleIsFree (.ref z)>>=_) _ _ _
 refine wpAny_bind ?_
 unfold Builtin.SmallTypes.ownedTupleIsFree
 refine wpAny_bind (wpAny_field hz rfl (x:=.none) rfl (wpAny_pure ?_))
 simp only[if_true]
 refine wpAny_bind (wpAny_rule ?_)
 refine wpAny_bind (wpAny_field hz rfl (x:=.ref TO) rfl ?_)
 refine wpAny_bind (wpAny_setField_rec hz (by simp) fun H1 hz1 s1=>?_)
 replace hz1:IsZip H1 z TI TO .ellipsis:=hz1
 refine wpAny_bind ?_
 simp only[List.zipIdx_cons,List.zipIdx_nil,List.forIn_cons,List.forIn_nil]
 refine wpAny_bind (wpAny_bind (wpAny_onRaise ?_))
 show wpAny _ _ (Builtin.SmallTypes.nextOf (.ref i1)>>=_) _ _ _
 refine wpAny_bind (wpAny_nextOf_list_end hh (h1.extBut s1.extBut (Ne.symm zi1)) (hl1.extBut s1.extBut l1z) hend fun H2 e s2 he=>?_)
 obtain⟨oe,hoe,hce⟩:=he
 have hz2:IsZip H2 z TI TO .ellipsis:=s2 _ _ zi1 hz1
 have hez:e≠z:=fun x=>by subst x;rw[hz2] at hoe;cases hoe;simp at hce
 refine wpAny_setField_rec hz2 (by simp) fun H3 _ s3=>hE H3 e (fun c o hc x=>?_) ⟨oe,s3.extBut _ _ hez hoe,hce⟩
 simp only[List.mem_cons,List.not_mem_nil,or_false,not_or] at hc
 exact s3.extBut _ _ hc.1 (s2 _ _ hc.2.2.1 (s1.extBut _ _ hc.1 x))
theorem fN_{z TI TO i1 i2 i3 l1 l2 l3:Addr}{k1 k2 k3:Nat}{xs ys zs:Array Value}{x y u a b c:Value}{Q:Option Value->Shared->Prop}(D:Zd z TI TO i1 i2 i3 l1 l2 l3)
  (hz:IsZip s.heap z TI TO .none) (hTI:IsTri s.heap TI (.ref i1) (.ref i2) (.ref i3)) (hTO:IsTri s.heap TO a b c)
  (h1:s.heap.IsListIter i1 l1 k1) (h2:s.heap.IsListIter i2 l2 k2) (h3:s.heap.IsListIter i3 l3 k3) (hl1:s.heap.IsList l1 xs) (hl2:s.heap.IsList l2 ys) (hl3:s.heap.IsList l3 zs) (hx:xs[k1]?=some x) (hy:ys[k2]?=some y) (hu:zs[k3]?=some u)
  (hQ:∀h',IsZip h' z TI TO (rawInt s.heap.objs.size)->IsTri h' TO x y u->h'.IsListIter i1 l1 (k1+1)->h'.IsListIter i2 l2 (k2+1)->h'.IsListIter i3 l3 (k3+1)->IsTri h' s.heap.objs.size x y u->h'.objs.size=s.heap.objs.size+1->
   (∀c o,c∉[z,TO,i1,i2,i3]->s.heap.get? c=some o->h'.get? c=some o)->Q (some (.ref s.heap.objs.size)) {s with heap:=h'}) :
  wpAny (model prog w) A (pyNext (.ref z)) Q E s:=by
 have hT:s.TypeIs (.ref z) "zip":=⟨_,hz,rfl⟩
 unfold pyNext
 exact wpAny_bind (wpAny_attempt (wpAny_callSpecial?_slot (name:=Str.ofString "__next__") hT F.slot_zip_next
  (wpAny_call_entry F.slot_zip_next hT F.entry_zip_next
   (jB_ D hz hTI hTO h1 h2 h3 hl1 hl2 hl3 hx hy hu fun h' a1 a2 a3 a4 a5 a6 a7 a8=>wpAny_pure (hQ h' a1 a2 a3 a4 a5 a6 a7 a8)) (F.args_zip_next_1 _))))
theorem hg_{z TI TO i1 i2 i3 l1 l2 l3:Addr}{k1:Nat}{xs:Array Value}{a b c:Value}{Q:Option Value->Shared->Prop}(hh:A.handled=none)(D:Zd z TI TO i1 i2 i3 l1 l2 l3)
  (hz:IsZip s.heap z TI TO .none) (hTI:IsTri s.heap TI (.ref i1) (.ref i2) (.ref i3)) (hTO:IsTri s.heap TO a b c)
  (h1:s.heap.IsListIter i1 l1 k1) (hl1:s.heap.IsList l1 xs) (hend:xs[k1]?=none)
  (hQ:∀h',(∀c o,c∉[z,TO,i1,i2,i3]->s.heap.get? c=some o->h'.get? c=some o)->Q none {s with heap:=h'}):wpAny (model prog w) A (pyNext (.ref z)) Q E s:=by
 have hT:s.TypeIs (.ref z) "zip":=⟨_,hz,rfl⟩
 unfold pyNext
 refine wpAny_bind (wpAny_attempt (wpAny_callSpecial?_slot (name:=Str.ofString "__next__") hT F.slot_zip_next
  (wpAny_call_entry F.slot_zip_next hT F.entry_zip_next (lp_ hh D hz hTI hTO h1 hl1 hend fun h' e hk he=>?_) (F.args_zip_next_1 _))))
 obtain⟨o,ho,hc⟩:=he
 refine wpAny_bind (wpAny_isInstance (T:="StopIteration") (b:=true) ⟨o,ho,hc⟩ isSubtype_stop ?_)
 exact wpAny_pure (hQ _ hk)
end
abbrev z3a(h:Heap)(l1:Addr):Heap:=h.push {cls:=.type "list_iterator",data:=.fields #[.ref l1,.int 0 0]}
abbrev z3b(h:Heap)(l1 l2:Addr):Heap:=(z3a h l1).push {cls:=.type "list_iterator",data:=.fields #[.ref l2,.int 0 0]}
abbrev z3c(h:Heap)(l1 l2 l3:Addr):Heap:=(z3b h l1 l2).push {cls:=.type "list_iterator",data:=.fields #[.ref l3,.int 0 0]}
abbrev z3d(h:Heap)(l1 l2 l3:Addr):Heap:=(z3c h l1 l2 l3).push {cls:=.type "tuple",data:=.seq #[.ref h.objs.size,.ref (z3a h l1).objs.size,.ref (z3b h l1 l2).objs.size]}
abbrev z3e(h:Heap)(l1 l2 l3:Addr):Heap:=(z3d h l1 l2 l3).push {cls:=.type "tuple",data:=.seq #[.none,.none,.none]}
abbrev z3f(h:Heap)(l1 l2 l3:Addr):Heap:=(z3e h l1 l2 l3).push {cls:=.type "zip",data:=.fields #[.none,.bool false,.bool false,.ref (z3c h l1 l2 l3).objs.size,.ref (z3d h l1 l2 l3).objs.size]}
theorem jE_(l1 l2 l3:Addr)(xs ys zs:Array Value) :
  Meets (Builtin.«zip.__new__» ⟨[.type "zip",.ref l1,.ref l2,.ref l3],[]⟩) (fun _ R s=>s.heap.IsList l1 xs/\s.heap.IsList l2 ys/\s.heap.IsList l3 zs/\
   R (.ok (.ret (.ref (z3e s.heap l1 l2 l3).objs.size))) {s with heap:=z3f s.heap l1 l2 l3}) :=
 .of_wp fun prog w A R s h=>by
  obtain⟨hp,g,d,tk,os⟩:=s;obtain⟨hl1,hl2,hl3,h⟩:=h
  have hsub:=sub_zip
  have hL1:Heap.IsList (Shared.heap ⟨hp,g,d,tk,os⟩) l1 xs:=hl1
  have hL2:Heap.IsList (Shared.heap ⟨hp.push {cls:=.type "list_iterator",data:=.fields #[.ref l1,.int 0 0]},g,d,tk,os⟩) l2 ys:=Heap.IsList.push hl2 _
  have hL3:Heap.IsList (Shared.heap ⟨(hp.push {cls:=.type "list_iterator",data:=.fields #[.ref l1,.int 0 0]}).push {cls:=.type "list_iterator",data:=.fields #[.ref l2,.int 0 0]},g,d,tk,os⟩) l3 zs:=Heap.IsList.push (Heap.IsList.push hl3 _) _
  wp_walk using wpAny_pyIter_list hL1,wpAny_pyIter_list hL2,wpAny_pyIter_list hL3
  exact⟨_,rfl,h⟩
theorem nd6(n:Nat):List.Nodup [n+5,n+3,n+4,n,n+1,n+2]:=by
 simp only[List.nodup_cons,List.mem_cons,List.not_mem_nil,or_false,not_or,not_false_eq_true,List.nodup_nil,and_true]
 refine⟨⟨?_,?_,?_,?_,?_⟩,⟨?_,?_,?_,?_⟩,⟨?_,?_,?_⟩,⟨?_,?_⟩,?_⟩ <;> lia
theorem pV_{n l1 l2 l3:Addr}(h1:l1<n)(h2:l2<n)(h3:l3<n):Zd (n+5) (n+3) (n+4) n (n+1) (n+2) l1 l2 l3:=by
 have h1':(l1:Nat)<n:=h1
 have h2':(l2:Nat)<n:=h2
 have h3':(l3:Nat)<n:=h3
 have key:∀l:Nat,l<n->l∉[(n:Nat)+5,n+4,n,n+1,n+2]:=fun l hl z=>by
  simp only[List.mem_cons,List.not_mem_nil,or_false] at z
  lia
 refine⟨?_,key l1 h1,key l2 h2,key l3 h3⟩
 exact nd6 n
section
variable{prog:Program}{w:World}{A:Around}{E:Value->Shared->Prop}{s:Shared}
theorem jS_{l1 l2 l3:Addr}{xs ys zs:Array Value}{Q:Value->Shared->Prop}(hl1:s.heap.IsList l1 xs)(hl2:s.heap.IsList l2 ys)(hl3:s.heap.IsList l3 zs)
  (h:∀h',IsZip h' (s.heap.objs.size+5) (s.heap.objs.size+3) (s.heap.objs.size+4) .none->IsTri h' (s.heap.objs.size+3) (.ref s.heap.objs.size) (.ref (s.heap.objs.size+1)) (.ref (s.heap.objs.size+2))->
   IsTri h' (s.heap.objs.size+4) .none .none .none->h'.IsListIter s.heap.objs.size l1 0->h'.IsListIter (s.heap.objs.size+1) l2 0->h'.IsListIter (s.heap.objs.size+2) l3 0->
   (∀c o,s.heap.get? c=some o->h'.get? c=some o)->Q (.ref (s.heap.objs.size+5)) {s with heap:=h'}) :
  wpAny (model prog w) A (call (.type "zip") [.ref l1,.ref l2,.ref l3]) Q E s:=by
 refine callType_new F.called_zip (by decide) (dV_ _ _ _) (fg_ _ _ _) (fun obj=>hQ_ obj _ _ _) F.entry_zip_new
  (jE_ l1 l2 l3 xs ys zs) ⟨hl1,hl2,hl3,?_⟩
 have e1:(z3a s.heap l1).objs.size=s.heap.objs.size+1:=Heap.size_push ..
 have e2:(z3b s.heap l1 l2).objs.size=s.heap.objs.size+2:=by rw[Heap.size_push,e1]
 have e3:(z3c s.heap l1 l2 l3).objs.size=s.heap.objs.size+3:=by rw[Heap.size_push,e2]
 have e4:(z3d s.heap l1 l2 l3).objs.size=s.heap.objs.size+4:=by rw[Heap.size_push,e3]
 have e5:(z3e s.heap l1 l2 l3).objs.size=s.heap.objs.size+5:=by rw[Heap.size_push,e4]
 have g6:(z3f s.heap l1 l2 l3).get? (z3e s.heap l1 l2 l3).objs.size=some _:=Heap.get?_push_size _ rfl
 have g5:(z3f s.heap l1 l2 l3).get? (z3d s.heap l1 l2 l3).objs.size=some _:=Heap.get?_push_of_some _ (Heap.get?_push_size _ rfl)
 have g4:(z3f s.heap l1 l2 l3).get? (z3c s.heap l1 l2 l3).objs.size=some _:=Heap.get?_push_of_some _ (Heap.get?_push_of_some _ (Heap.get?_push_size _ rfl))
 have g3:(z3f s.heap l1 l2 l3).get? (z3b s.heap l1 l2).objs.size=some _:=Heap.get?_push_of_some _ (Heap.get?_push_of_some _ (Heap.get?_push_of_some _ (Heap.get?_push_size _ rfl)))
 have g2:(z3f s.heap l1 l2 l3).get? (z3a s.heap l1).objs.size=some _:=Heap.get?_push_of_some _ (Heap.get?_push_of_some _ (Heap.get?_push_of_some _ (Heap.get?_push_of_some _ (Heap.get?_push_size _ rfl))))
 have g1:(z3f s.heap l1 l2 l3).get? s.heap.objs.size=some _:=Heap.get?_push_of_some _ (Heap.get?_push_of_some _ (Heap.get?_push_of_some _ (Heap.get?_push_of_some _ (Heap.get?_push_of_some _ (Heap.get?_push_size _ rfl)))))
 show _/\_
 rw[e3,e4,e5] at g6
 rw[e1,e2,e3] at g4
 rw[e4] at g5
 rw[e2] at g3
 rw[e1] at g2
 rw[e5]
 exact⟨⟨_,g6,rfl⟩,h _ g6 g4 g5 ⟨_,g1,rfl,rfl⟩ ⟨_,g2,rfl,rfl⟩ ⟨_,g3,rfl,rfl⟩ fun c o x =>
  Heap.get?_push_of_some _ (Heap.get?_push_of_some _ (Heap.get?_push_of_some _ (Heap.get?_push_of_some _ (Heap.get?_push_of_some _ (Heap.get?_push_of_some _ x)))))⟩
end
def Itz3(K:PySem.W.Frag)(a b c:Addr):It :=
 ⟨fun i H=>∃xs ys zs x y u,SqL K H a xs/\SqL K H b ys/\SqL K H c zs/\xs[i]?=some x/\ys[i]?=some y/\zs[i]?=some u,
  fun i H v H'=>∃t x y u,v=.ref t/\H t=none/\(∀xs,SqL K H a xs->xs[i]?=some x)/\(∀ys,SqL K H b ys->ys[i]?=some y)/\(∀zs,SqL K H c zs->zs[i]?=some u)/\H'=upd H t (.tup [x,y,u]),
  fun i H=>∃xs,SqL K H a xs/\xs.length<=i⟩
theorem kf_{P:Program}{w:World}{K:PySem.W.Frag}{elts:List Expr}{x1}{pos:Pos}(a b c z TI TO i1 i2 i3:Addr)(D:Zd z TI TO i1 i2 i3 a b c):Turn P w K (.Tuple elts x1 pos) (Itz3 K a b c) [z,TI,TO,i1,i2,i3] z
  (fun i h=>IsZip h z TI TO .none/\IsTri h TI (.ref i1) (.ref i2) (.ref i3)/\(∃u v t,IsTri h TO u v t)/\h.IsListIter i1 a i/\h.IsListIter i2 b i/\h.IsListIter i3 c i) where
 mem:=by simp
 obj:=fun i h st e hb=>by
  obtain⟨h1,h2,⟨u,v,t,h3⟩,⟨o4,h4,_,d4⟩,⟨o5,h5,_,d5⟩,⟨o6,h6,_,d6⟩⟩:=st
  simp only[List.mem_cons,List.not_mem_nil,or_false] at hb
  rcases hb with rfl | rfl | rfl | rfl | rfl | rfl
  ·exact⟨_,h1,fun v z=>by cases z⟩
  ·exact⟨_,h2,fun v z=>by cases z⟩
  ·exact⟨_,h3,fun v z=>by cases z⟩
  ·exact⟨o4,h4,fun v z=>by rw[d4] at z;cases z⟩
  ·exact⟨o5,h5,fun v z=>by rw[d5] at z;cases z⟩
  ·exact⟨o6,h6,fun v z=>by rw[d6] at z;cases z⟩
 keep:=fun i h h' st k=>by
  obtain⟨h1,h2,⟨u,v,t,h3⟩,h4,h5,h6⟩:=st
  exact⟨k z (by simp) _ h1,k TI (by simp) _ h2,⟨u,v,t,k TO (by simp) _ h3⟩,h4.at fun o q=>k i1 (by simp) o q,h5.at fun o q=>k i2 (by simp) o q,h6.at fun o q=>k i3 (by simp) o q⟩
 item:=by
  intro X hP hw hK hc i pins s σ H E I hf st hg
  subst hP hw hK
  have nd:=D.nd
  simp only[List.nodup_cons,List.mem_cons,List.not_mem_nil,or_false,not_or,not_false_eq_true,List.nodup_nil,and_true] at nd
  obtain⟨⟨zTI,zTO,zi1,zi2,zi3⟩,⟨TITO,TIi1,TIi2,TIi3⟩,⟨TOi1,TOi2,TOi3⟩,⟨i12,i13⟩,i23⟩:=nd
  obtain⟨h1,h2,⟨u0,v0,t0,h3⟩,h4,h5,h6⟩:=st
  obtain⟨xs,ys,zs,x,y,y3,hqa,hqb,hqc,hx,hy,hy3⟩:=hg
  obtain⟨its,rv,p,hz⟩:=I.list hqa
  obtain⟨jts,rw',p',hz'⟩:=I.list hqb
  obtain⟨kts,rx',p3,hz3⟩:=I.list hqc
  obtain⟨u,hu,ru⟩:=rv.get hx
  obtain⟨v,hv,rv'⟩:=rw'.get hy
  obtain⟨t,ht,rt'⟩:=rx'.get hy3
  have e1:=Heap.lt_size h1
  have fpo:∀e∈[z,TI,TO,i1,i2,i3],∃o,s.heap.get? e=some o:=fun e hb=>by
   obtain⟨o4,q4,_⟩:=h4
   obtain⟨o5,q5,_⟩:=h5
   obtain⟨o6,q6,_⟩:=h6
   simp only[List.mem_cons,List.not_mem_nil,or_false] at hb
   rcases hb with rfl | rfl | rfl | rfl | rfl | rfl
   ·exact⟨_,h1⟩
   ·exact⟨_,h2⟩
   ·exact⟨_,h3⟩
   ·exact⟨_,q4⟩
   ·exact⟨_,q5⟩
   ·exact⟨_,q6⟩
  refine fN_ D h1 h2 h3 h4 h5 h6 p.isList p'.isList p3.isList (x:=u) (y:=v) (u:=t) (by simpa using hu) (by simpa using hv) (by simpa using ht) fun h' g1 g2 g3 g4 g4' g5 g6 g7=>⟨_,rfl,?_⟩
  refine wpAny_letOwnedTupleGo_zip g1 fun h2' g8 g9=>?_
  have kk:∀e o,e∉[z,TI,TO,i1,i2,i3]->s.heap.get? e=some o->h2'.get? e=some o:=fun e o hb q=>by
   simp only[List.mem_cons,List.not_mem_nil,or_false,not_or] at hb
   exact g9.extBut e o hb.1 (g7 e o (by simp only[List.mem_cons,List.not_mem_nil,or_false,not_or];exact⟨hb.1,hb.2.2.1,hb.2.2.2.1,hb.2.2.2.2.1,hb.2.2.2.2.2⟩) q)
  have tT:h2'.get? s.heap.objs.size=some {cls:=.type "tuple",data:=.seq #[u,v,t]}:=g9.extBut _ _ (Nat.ne_of_gt e1) g5
  have I1:=I.turnedNew (t':=s.toks) (T:=s.heap.objs.size) (o:=.tup [x,y,y3]) kk hf (Nat.le_refl _) ⟨by show 3<=sizeLine;decide,[u,v,t],.cons ru (.cons rv' (.cons rt' .nil)),⟨_,tT,rfl,_,rfl⟩⟩
  have hn:H s.heap.objs.size=none:=I.hok.fresh (Nat.le_refl _)
  refine⟨.ref s.heap.objs.size,_,I1,rfl,⟨_,x,y,y3,rfl,hn,fun zs hy'=>by rw[I.list_inj hy' hqa];exact hx,fun zs hy'=>by rw[I.list_inj hy' hqb];exact hy,fun zs hy'=>by rw[I.list_inj hy' hqc];exact hy3,rfl⟩,⟨g8,?_,⟨u,v,t,?_⟩,?_,?_,?_⟩,fun e hb=>?_⟩
  ·exact g9.extBut _ _ (Ne.symm zTI) (g7 _ _ (by simp only[List.mem_cons,List.not_mem_nil,or_false,not_or];exact⟨Ne.symm zTI,TITO,TIi1,TIi2,TIi3⟩) h2)
  ·exact g9.extBut _ _ (Ne.symm zTO) g2
  ·exact g3.extBut g9.extBut (Ne.symm zi1)
  ·exact g4.extBut g9.extBut (Ne.symm zi2)
  ·exact g4'.extBut g9.extBut (Ne.symm zi3)
  ·obtain⟨f0,_⟩:=hf e hb
   obtain⟨o,q⟩:=fpo e hb
   rw[i_ (Nat.ne_of_lt (Heap.lt_size q))];exact f0
 done:=by
  intro X hP hw hK hc i pins s σ H E I hf st hg
  subst hP hw hK
  obtain⟨h1,h2,⟨u0,v0,t0,h3⟩,h4,h5,h6⟩:=st
  obtain⟨xs,hqa,hx⟩:=hg
  obtain⟨its,rv,p,hz⟩:=I.list hqa
  have hl:=rv.length
  refine hg_ (I.ok.hd hc) D h1 h2 h3 h4 p.isList (by simp;lia) fun h' eb=>⟨rfl,I.turnedL (t':=s.toks) (ch:=[z,TI,TO,i1,i2,i3]) (fun e o hb q=>eb e o (fun z'=>hb ?_) q) hf⟩
  simp only[List.mem_cons,List.not_mem_nil,or_false] at z'⊢
  rcases z' with r | r | r | r | r <;> simp[r]
 self:=fun _ _ _ _ _ st h=>wpAny_pyIter_zip st.1 h
section
variable{X:Cx}{l l2 l3:Expr}{tl tl2 tl3:TE}{elts:List Expr}{p pos tpos:Pos}
def iZip3(K:PySem.W.Frag)(tl tl2 tl3:TE):TI:=fun σ H R=>tl σ H fun x H1=>tl2 σ H1 fun y H2=>tl3 σ H2 fun u H3=>∃a b c,x=.ref a/\y=.ref b/\u=.ref c/\(∃xs,SqL K H3 a xs)/\(∃ys,SqL K H3 b ys)/\(∃zs,SqL K H3 c zs)/\R (Itz3 K a b c) H3
theorem pa_{x1}(hg:Gl X "zip")(hm:X.mg "zip"=none)(hl:PE X l tl)(hl2:PE X l2 tl2)(hl3:PE X l3 tl3)(hs:starEach [l,l2,l3] X.env=[(false,eval l X.env),(false,eval l2 X.env),(false,eval l3 X.env)]:=by rfl)(hs2:starEach [l2,l3] X.env=[(false,eval l2 X.env),(false,eval l3 X.env)]:=by rfl) :
  PI X (.Tuple elts x1 tpos) (.Call (.Name "zip" p) [l,l2,l3] [] pos) (iZip3 X.K tl tl2 tl3):=by
 intro pins s σ H R I h
 refine Call_ (bJ_ I hg hm boot_zip (PyProof.Rows.callWith_type1 ?_ (by rw[hs,hs2]) (by rw[hs2];rfl)))
 rw[hs]
 show wpAny _ _ (spliced ((false,eval l X.env)::(false,eval l2 X.env)::(false,eval l3 X.env)::backTo pos (starEach [] X.env))) _ _ s
 refine Calls.spliced_cons (thn (hl pins s σ H _ I h) fun u s1 ⟨x,H1,I1,r1,q1⟩=>Calls.spliced_cons (thn (hl2 pins s1 σ H1 _ I1 q1) fun u2 s2 ⟨y,H2,I2,r2,q2⟩=>Calls.spliced_cons (thn (hl3 pins s2 σ H2 _ I2 q2) fun u3 s3 ⟨y3,H3,I3,r3,q3⟩=>Calls.spliced_nil ?_)))
 obtain⟨a,b,c,rfl,rfl,rfl,⟨xs,hqa⟩,⟨ys,hqb⟩,⟨zs,hqc⟩,q⟩:=q3
 cases r1
 cases r2
 cases r3
 obtain⟨its,rv,pl,hz⟩:=I3.list hqa
 obtain⟨jts,rv',pl',hz'⟩:=I3.list hqb
 obtain⟨kts,rv3,pl3,hz3⟩:=I3.list hqc
 have la:a<s3.heap.objs.size:=by obtain⟨_,e,_⟩:=pl.isList;exact Heap.lt_size e
 have lb:b<s3.heap.objs.size:=by obtain⟨_,e,_⟩:=pl'.isList;exact Heap.lt_size e
 have lc:c<s3.heap.objs.size:=by obtain⟨_,e,_⟩:=pl3.isList;exact Heap.lt_size e
 refine jS_ pl.isList pl'.isList pl3.isList fun h' g1 g2 g3 g4 g5 g6 g7=>?_
 have D:=pV_ la lb lc
 have T:=kf_ (P:=X.prog) (w:=X.w) (K:=X.K) (elts:=elts) (x1:=x1) (pos:=tpos) a b c _ _ _ _ _ _ D
 refine T.self _ 0 _ _ _ ⟨g1,g2,⟨_,_,_,g3⟩,g4,g5,g6⟩ ?_
 refine⟨s3.heap.objs.size+5,_,_,_,H3,rfl,I3.kept (t':=s3.toks) g7,T,⟨g1,g2,⟨_,_,_,g3⟩,g4,g5,g6⟩,fun e hb=>?_,q⟩
 have hb':s3.heap.objs.size<=e:=by
  simp only[List.mem_cons,List.not_mem_nil,or_false] at hb
  rcases hb with rfl | rfl | rfl | rfl | rfl | rfl
  ·exact Nat.le_add_right _ _
  ·exact Nat.le_add_right _ _
  ·exact Nat.le_add_right _ _
  ·exact Nat.le_refl _
  ·exact Nat.le_add_right _ _
  ·exact Nat.le_add_right _ _
 exact I3.fpOk hb' (I3.hok.fresh hb')
end
theorem nq_{K:PySem.W.Frag}{a b c:Addr}{xs ys zs:List V}{g:TG}{tb:TS}{D:Ends}{σ:St}{H:Hp}(Pv:Nat->St->Hp->Prop)(hlen:xs.length=ys.length)(hlen2:xs.length=zs.length)(h0:Pv 0 σ H)(hl:∀i σ H,i<=xs.length->Pv i σ H->SqL K H a xs/\SqL K H b ys/\SqL K H c zs)
  (hs:∀i x y u σ H t,xs[i]?=some x->ys[i]?=some y->zs[i]?=some u->Pv i σ H->H t=none->g (.ref t) σ (upd H t (.tup [x,y,u])) fun σ2 H2=>tb {D with nx:=Pv (i+1),ct:=Pv (i+1),bk:=D.nx} σ2 H2) (hd:∀ σ H,Pv xs.length σ H->D.nx σ H) :
  ∃W:Nat->Nat->St->Hp->Prop,(∃m,W 0 m σ H)/\∀i m σ H,W i m σ H->
   ((Itz3 K a b c).stop i H/\D.nx σ H)\/((Itz3 K a b c).go i H/\∃N:St->Hp->Prop,(∀ σ' H',N σ' H'->∃m',m'<m/\W (i+1) m' σ' H')/\∀x H',(Itz3 K a b c).yld i H x H'->g x σ H' fun σ2 H2=>tb {D with nx:=N,ct:=N,bk:=D.nx} σ2 H2):=by
 refine⟨fun i m σ H=>m=xs.length-i/\i<=xs.length/\Pv i σ H,⟨xs.length,by simp,Nat.zero_le _,h0⟩,?_⟩
 rintro i m σ H ⟨rfl,hi,p⟩
 obtain⟨q1,q2,q3⟩:=hl i σ H hi p
 by_cases hlt:i<xs.length
 ·have e1:xs[i]?=some xs[i]:=by simp[hlt]
  have e2:ys[i]?=some (ys[i]'(by lia)):=by simp
  have e3:zs[i]?=some (zs[i]'(by lia)):=by simp
  refine .inr ⟨⟨xs,ys,zs,_,_,_,q1,q2,q3,e1,e2,e3⟩,Pv (i+1),fun σ' H' p'=>⟨xs.length-(i+1),by lia,rfl,hlt,p'⟩,fun v H' y=>?_⟩
  obtain⟨t,x,y,u,rfl,ht,y1,y2,y3,rfl⟩:=y
  exact hs i x y u σ H t (y1 xs q1) (y2 ys q2) (y3 zs q3) p ht
 ·have e:i=xs.length:=by lia
  subst e
  exact .inl ⟨⟨xs,q1,Nat.le_refl _⟩,hd σ H p⟩
theorem mg_{K:PySem.W.Frag}{a b:Addr}{xs ys:List V}{G:V->Hp->(List V->Hp->Prop)->List V->Prop}{Fin:List V->Hp->Prop}{H:Hp}(Pv:Nat->List V->Hp->Prop)(hlen:xs.length<=ys.length)(h0:Pv 0 [] H)
  (hl:∀i zs H,i<=xs.length->Pv i zs H->SqL K H a xs/\SqL K H b ys) (hz:∀i zs H,i<xs.length->Pv i zs H->zs.length<sizeLine)
  (hs:∀i x y zs H t,xs[i]?=some x->ys[i]?=some y->Pv i zs H->H t=none->G (.ref t) (upd H t (.tup [x,y])) (Pv (i+1)) zs) (hd:∀zs H,Pv xs.length zs H->Fin zs H) :
  ∃W:Nat->Nat->List V->Hp->Prop,(∃m,W 0 m [] H)/\∀i m zs H,W i m zs H->
   ((Itz K a b).stop i H/\Fin zs H)\/((Itz K a b).go i H/\zs.length<sizeLine/\∃Nx:List V->Hp->Prop,(∀ys' H',Nx ys' H'->∃m',m'<m/\W (i+1) m' ys' H')/\∀x H',(Itz K a b).yld i H x H'->G x H' Nx zs):=by
 refine⟨fun i m zs H=>m=xs.length-i/\i<=xs.length/\Pv i zs H,⟨xs.length,by simp,Nat.zero_le _,h0⟩,?_⟩
 rintro i m zs H ⟨rfl,hi,p⟩
 obtain⟨q1,q2⟩:=hl i zs H hi p
 by_cases hlt:i<xs.length
 ·have e1:xs[i]?=some xs[i]:=by simp[hlt]
  have e2:ys[i]?=some (ys[i]'(by lia)):=by simp
  refine .inr ⟨⟨xs,ys,_,_,q1,q2,e1,e2⟩,hz i zs H hlt p,Pv (i+1),fun ys' H' p'=>⟨xs.length-(i+1),by lia,rfl,hlt,p'⟩,fun v H' y=>?_⟩
  obtain⟨t,x,y,rfl,ht,y1,y2,rfl⟩:=y
  exact hs i x y zs H t (y1 xs q1) (y2 ys q2) p ht
 ·have e:i=xs.length:=by lia
  subst e
  exact .inl ⟨⟨xs,ys,q1,q2,.inl (Nat.le_refl _)⟩,hd zs H p⟩
end L2
namespace Hv
open PySem L2
abbrev wz(ds:List Nat)(ws:List Int):List Int:=List.zipWith (fun(d:Nat) (x:Int)=>(d:Int)*x) ds ws
theorem pX_{ds:List Nat}{ws:List Int}{i d:Nat}{x:Int}(h1:ds[i]?=some d)(h2:ws[i]?=some x):(wz ds ws)[i]?=some ((d:Int)*x):=by
 simp[wz,List.getElem?_zipWith,h1,h2]
theorem qY_{ws:List Int}{i:Nat}{x:V}(h:(ws.map V.int)[i]?=some x):∃y:Int,ws[i]?=some y/\x=.int y:=by
 rw[List.getElem?_map] at h
 cases e:ws[i]? with
 | none=>rw[e] at h;cases h
 | some d=>rw[e] at h;exact⟨d,rfl,(Option.some.inj h).symm⟩
def cv_:Sp:=fun vs H Q _=>∃(r c:Addr) (ds:List Nat) (ws:List Int),vs=[.ref r,.ref c]/\H r=some (.lst (natV ds))/\H c=some (.lst (ws.map V.int))/\(∀x∈ws,-9<=x/\x<=9)/\ds.length<=ws.length/\ws.length<=6/\
 ∀H',Same H H'->Q (.int (wz ds ws).sum) H'
section
variable{P:Program}{w:World}{K:PySem.W.Frag}{mg:Str->Option Value}{base:Heap}
theorem jl_:FnScope ["figures","weights"] ["figures","weights"] (g_ bo_):=⟨rfl,rfl,rfl,by decide +kernel,rfl,by decide +kernel,by decide +kernel⟩
theorem hp_{f:Addr}{fd:FuncData}(F:Fun K "weighted_sum" "weighted_sum" bo_ f fd)(T:Txt mg):FnOk P w K mg base CX0 1 f fd ["figures","weights"] cv_:=by
 refine F.ok jl_ (fun vs H Q E h=>?_) (fun cdv A outer s H vs Q E hr h=>?_)
 ·obtain⟨r,c,ds,ws,rfl,_⟩:=h;rfl
 ·obtain⟨r,c,ds,ws,rfl,h1,h2,hw,hl,hl6,k⟩:=h
  have nd2:List.Nodup (["figure","weight"]:List Str):=by decide +kernel
  refine⟨_,h_ (m_ (o_ (cs_ rfl) (by rfl) T.sum boot_sum (a_ (hn_ (N:=["figure","weight"]) (k:=2) (fr:=[]) (cmpS (sc:=g_ bo_) (NX:=["figures","weights"]) (k:=2) (fr:=[]) rfl rfl (by decide +kernel))
    (cmpF (sc:=g_ bo_) (NX:=["figures","weights"]) rfl (by decide +kernel)) rfl (kV_ (by rfl) T.zip (pv 0) (pv 1))
    (fun cl C s H fp=>eX_ K rfl rfl (z_ (p_ (i:=0) nd2 rfl (Or.inl rfl)) (z_ (p_ (i:=1) nd2 rfl (Or.inl rfl)) aY_))) iW_ (fun cl C s H fp=>aD_) (fun cl C s H fp=>n_ ad_ (pv 0) (pv 1))) c_))),?_⟩
  refine⟨_,rfl,_,rfl,r,c,rfl,rfl,⟨_,SqL.of h1⟩,⟨_,SqL.of h2⟩,mg_ (K:=K) (a:=r) (b:=c) (xs:=natV ds) (ys:=ws.map V.int)
   (fun i zs H'=>zs=((wz ds ws).take i).map V.int/\Same H H') (by simp[natV];lia) ⟨by simp,Same.refl _⟩ (fun i zs H' _ p=>⟨SqL.of (p.2 _ _ h1),SqL.of (p.2 _ _ h2)⟩)
   (fun i zs H' hi p=>szl (by rw[p.1,List.length_map,List.length_take];simp[natV] at hi;lia)) ?_ ?_⟩
  ·rintro i x y zs H' t hx hy ⟨rfl,s2⟩ ht
   obtain⟨d,hd,rfl⟩:=lr_ hx
   obtain⟨x,hw',rfl⟩:=qY_ hy
   have hx9:=hw x (List.mem_of_getElem? hw')
   refine⟨t,_,rfl,SqT.of d_,rfl,_,_,rfl,_,_,rfl,rfl,_,rfl,_,rfl,_,_,rfl,rfl,.inr ⟨by lia,by lia⟩,?_,D_ s2 (s2.free ht)⟩
   rw[List.take_add_one,pX_ hd hw']
   simp
  rintro zs H' ⟨rfl,s2⟩ wl hwl
  have e1:(natV ds).length=(wz ds ws).length:=by simp[natV,wz];lia
  rw[e1,List.take_length]
  exact⟨wl,_,rfl,SqL.of d_,k _ (D_ s2 (s2.free hwl))⟩
end
end Hv
namespace Mq
theorem nP_{f:Int->Int}{a k:Int}:∀ {n:Nat},a<=k->k<a+n->sm f a n=sm (fun t=>if t=k then 0 else f t) a n+f k
 | 0,h1,h2=>by lia
 | n+1,h1,h2=>by
  simp only[sm]
  by_cases e:a+(n:Int)=k
  ·rw[if_pos e,e]
   have:sm f a n=sm (fun t=>if t=k then 0 else f t) a n:=am_ fun t _ h=>by
    rw[if_neg (by lia)]
   rw[this]
   lia
  ·rw[if_neg e,nP_ (n:=n) h1 (by push_cast at h2;lia)]
   lia
theorem kA_{a:Int}{n:Nat}:∀ {ks:List Int} {f:Int->Int},ks.Nodup->(∀k∈ks,a<=k/\k<a+n)->(∀t,t∉ks->f t=0)->(ks.map f).sum=sm f a n
 | [],f,_,_,z=>by
  rw[ak_ fun t _ _=>z t (by simp)]
  rfl
 | k::ks,f,nd,h,z=>by
  obtain⟨n1,n2⟩:=List.nodup_cons.mp nd
  rw[nP_ (f:=f) (h k (by simp)).1 (h k (by simp)).2]
  have ih:=kA_ (a:=a) (n:=n) (ks:=ks) (f:=fun t=>if t=k then 0 else f t) n2 (fun q hq=>h q (by simp[hq])) (fun t ht=>by
   by_cases e:t=k
   ·rw[if_pos e]
   ·rw[if_neg e];exact z t (by simp[e,ht]))
  rw[<-ih,List.map_cons,List.sum_cons]
  have e:ks.map (fun t=>if t=k then 0 else f t)=ks.map f:=List.map_congr_left fun t ht=>if_neg (fun(z:t=k)=>n1 (by rw[<-z];exact ht))
  rw[e]
  lia
end Mq
namespace Me
open Mq
theorem mK_(b:Nat)(rows:List (List Int))(t:Int):0<=prodW b rows t:=kS_ rows 1 (by decide)
theorem iY_{b:Nat}{rows:List (List Int)}:∀ks:List Int,((ks.filter fun k=>decide (0<prodW b rows k)).map (prodW b rows)).sum=(ks.map (prodW b rows)).sum
 | []=>rfl
 | k::ks=>by
  have ih:=iY_ (b:=b) (rows:=rows) ks
  by_cases h:0<prodW b rows k
  ·rw[List.filter_cons_of_pos (by simpa using h),List.map_cons,List.map_cons,List.sum_cons,List.sum_cons,ih]
  ·have:prodW b rows k=0:=by have:=mK_ b rows k;lia
   rw[List.filter_cons_of_neg (by simpa using h),List.map_cons,List.sum_cons,ih,this]
   lia
theorem ns_(b:Nat)(rows:List (List Int))(ks:List Int):tot (evenL b rows ks)=(ks.map (prodW b rows)).sum:=by
 rw[<-iY_]
 unfold tot evenL
 rw[List.map_map]
 rfl
theorem nV_{b:Nat}(t:Int):∀(rows:List (List Int)) (c:Int),(fws b rows).foldl (fun m f=>m*sm f t 1) c=rows.foldl (fun m row=>m*(look (waysW b row) t).getD 0) c
 | [],_=>rfl
 | r::rows,c=>by
  have e:sm (fw b r) t 1=(look (waysW b r) t).getD 0:=by
   simp[sm,fw]
  show(fws b rows).foldl _ (c*sm (fw b r) t 1)=_
  rw[nV_ t rows,List.foldl_cons,e]
theorem eq_{b:Nat}(hb:1<=b){rows:List (List Int)}{row:List Int}(hr:row∈rows):∀k∈keys (waysW b row),Ma.minL (los b rows)<=k/\k<=Ma.maxL (his b rows):=fun k hk=>by
 have h1:=(Ma.w_ _ (hF_ hb row)).2 k hk
 have h2:=(Ma.y_ _ (hF_ hb row)).2 k hk
 have nl:0<(los b rows).length:=by rw[los,List.length_map];exact List.length_pos_of_mem hr
 have nh:0<(his b rows).length:=by rw[his,List.length_map];exact List.length_pos_of_mem hr
 have h3:=(Ma.w_ _ nl).2 (loW b row) (List.mem_map.mpr ⟨row,hr,rfl⟩)
 have h4:=(Ma.y_ _ nh).2 (hiW b row) (List.mem_map.mpr ⟨row,hr,rfl⟩)
 unfold loW at h3
 unfold hiW at h4
 lia
theorem lq_{b:Nat}(hb:1<=b){rows:List (List Int)}{row:List Int}(h0:rows[0]?=some row):nearV b rows 0=tot (evenL b rows (keys (waysW b row))):=by
 have hm:row∈rows:=List.mem_of_getElem? h0
 rw[ns_]
 have hin:=eq_ hb hm
 rw[kA_ (a:=Ma.minL (los b rows)) (n:=(Ma.maxL (his b rows)-Ma.minL (los b rows)+1).toNat) (ew_ b row).nd (fun k hk=>by have:=hin k hk;lia) fun t ht=>kT_ h0 ht]
 unfold nearV
 apply am_
 intro t _ _
 unfold gat
 rw[dD_ (fs:=fws b rows) (f:=fw b row) (a:=t+1) (n:=0) (List.mem_map.mpr ⟨row,hm,rfl⟩) rfl]
 have:pr (fws b rows) t (0+1)=prodW b rows t:=nV_ t rows 1
 rw[this]
 lia
theorem md_(ps:List Nat):∀ws:List Int,ws.length=ps.sum->(Ma.cuts ps ws).map List.length=ps:=by
 induction ps with
 | nil=>intro ws _;rfl
 | cons p ps ih =>
  intro ws h
  rw[List.sum_cons] at h
  rw[Ma.cuts,List.map_cons,ih (ws.drop p) (by rw[List.length_drop];lia),List.length_take]
  congr 1
  lia
end Me
namespace Mg
open Me Mq
def ns(g:Nat->Int):Nat->Int
 | 0=>0
 | n+1=>ns g n+g n
theorem Y_{g h:Nat->Int}:∀ {n:Nat},(∀i,i<n->g i=h i)->ns g n=ns h n
 | 0,_=>rfl
 | n+1,e=>by rw[ns,ns,Y_ (n:=n) fun i hi=>e i (by lia),e n (by lia)]
theorem gh_(g:Nat->Int)(n:Nat):∀m:Nat,ns g (n+m)=ns g n+ns (fun i=>g (n+i)) m
 | 0=>by simp[ns]
 | m+1=>by
  rw[<-Nat.add_assoc,ns,ns,gh_ g n m]
  lia
theorem iE_(g:Nat->Int)(b:Nat):∀a:Nat,ns g (a*b)=ns (fun i=>ns (fun j=>g (i*b+j)) b) a
 | 0=>by simp[ns]
 | a+1=>by
  rw[Nat.succ_mul,gh_,ns,iE_ g b a]
def tg(f:List (Int×Int))(G:Int->Int):Int:=(f.map fun q=>q.2*G q.1).sum
theorem X_(p:Int×Int)(f:List (Int×Int))(G:Int->Int):tg (p::f) G=p.2*G p.1+tg f G:=by simp[tg]
theorem ko_{k n:Int}{G:Int->Int}:∀ {f:List (Int×Int)},(keys f).Nodup->tg (addTo f k n) G=tg f G+n*G k
 | [],_=>by simp[addTo,put,look,tg]
 | (a,x)::f,nd=>by
  have nd1:a∉keys f:=(List.nodup_cons.mp nd).1
  have nd2:(keys f).Nodup:=(List.nodup_cons.mp nd).2
  by_cases e:a=k
  ·subst e
   rw[fr_ nd1,X_,X_]
   simp only
   rw[Int.add_mul]
   lia
  ·rw[dl_ e,X_,X_,ko_ (k:=k) (n:=n) nd2]
   lia
theorem kn_{p:Int×Int}{w:Int}{G:Int->Int}{acc:List (Int×Int)}(nd:(keys acc).Nodup):∀n:Nat,tg (figs p w n acc) G=tg acc G+p.2*ns (fun(d:Nat)=>G (p.1+(d:Int)*w)) n
 | 0=>by simp[ns,figs]
 | n+1=>by
  rw[ai_,ko_ (bd_ nd n),kn_ nd n,ns,Int.mul_add]
  lia
theorem km_{b:Nat}{w:Int}{G:Int->Int}:∀(f acc:List (Int×Int)),(keys acc).Nodup->tg (f.foldl (fun acc p=>figs p w b acc) acc) G=tg acc G+tg f fun x=>ns (fun(d:Nat)=>G (x+(d:Int)*w)) b
 | [],acc,_=>by simp[tg]
 | p::f,acc,nd=>by
  rw[List.foldl_cons,km_ f _ (bd_ nd b),kn_ nd b,X_]
  lia
theorem qd_{b:Nat}{w:Int}{G:Int->Int}(f:List (Int×Int)):tg (P_ f b w) G=tg f fun x=>ns (fun(d:Nat)=>G (x+(d:Int)*w)) b:=by
 have:=km_ (b:=b) (w:=w) (G:=G) f [] (by simp[keys])
 have e:tg [] G=0:=rfl
 rw[e,Int.zero_add] at this
 exact this
def ws1(b d:Nat)(row:List Int):Int:=(Ma.wts b d row.length row).sum
theorem lR_(b d e L:Nat)(he:e<b):Ma.dws b (d*b+e) (L+1) (L+1)=Ma.dws b d L L++[e]:=by
 rw[Ma.fq_]
 congr 1
 ·unfold Ma.dws
  apply List.map_congr_left
  intro j hj
  have hj':=List.mem_range.mp hj
  have e1:L+1-1-j=(L-1-j)+1:=by lia
  rw[e1,Nat.pow_succ',<-Nat.div_div_eq_div_mul]
  have e2:(d*b+e) / b=d:=by
   rw[Nat.mul_comm d b,Nat.mul_add_div (by lia),Nat.div_eq_of_lt he,Nat.add_zero]
  rw[e2]
 ·have e1:L+1-1-L=0:=by lia
  rw[e1,Nat.pow_zero,Nat.div_one,Nat.mul_comm d b,Nat.mul_add_mod,Nat.mod_eq_of_lt he]
theorem pY_(b d e:Nat)(row:List Int)(w:Int)(he:e<b):ws1 b (d*b+e) (row++[w])=ws1 b d row+e*w:=by
 unfold ws1 Ma.wts
 rw[List.length_append,List.length_singleton,lR_ b d e row.length he,List.zipWith_append (by rw[Ma.E_]),List.sum_append]
 simp
theorem hU_(b:Nat)(G:Int->Int)(row:List Int):ns (fun d=>G (ws1 b d row)) (b ^ row.length)=tg (waysW b row) G:=by
 have key:∀(n:Nat) (row:List Int),row.length=n->∀G:Int->Int,ns (fun d=>G (ws1 b d row)) (b ^ row.length)=tg (waysW b row) G:=fun n=>by
  induction n with
  | zero =>
   intro row h G
   have:row=[]:=List.eq_nil_of_length_eq_zero h
   subst this
   simp[ns,tg,waysW,ws1,Ma.wts]
  | succ n ih =>
   intro row h G
   obtain⟨r,w,rfl⟩:∃r w,row=r++[w]:=by
    refine⟨row.dropLast,row.getLast (by intro z;rw[z] at h;simp at h),?_⟩
    exact(List.dropLast_concat_getLast _).symm
   have hr:r.length=n:=by simpa using h
   have e1:waysW b (r++[w])=P_ (waysW b r) b w:=by
    unfold waysW
    rw[List.foldl_append]
    rfl
   rw[e1,qd_,<-ih r hr,List.length_append,List.length_singleton,Nat.pow_succ,iE_]
   apply Y_
   intro d _
   apply Y_
   intro e he
   rw[pY_ b d e r w he]
 exact key row.length row rfl G
theorem gr_(b d m p L:Nat)(hb:0<b)(hm:m<b ^ L):Ma.dws b (d*b ^ L+m) (p+L) (p+L)=Ma.dws b d p p++Ma.dws b m L L:=by
 have gen:∀i,i<=L->Ma.dws b (d*b ^ L+m) (p+L) (p+i)=Ma.dws b d p p++Ma.dws b m L i:=fun i=>by
  induction i with
  | zero =>
   intro _
   unfold Ma.dws
   simp only[Nat.add_zero,List.range_zero,List.map_nil,List.append_nil]
   apply List.map_congr_left
   intro j hj
   have hj':=List.mem_range.mp hj
   have e1:p+L-1-j=(p-1-j)+L:=by lia
   rw[e1,Nat.pow_add,Nat.mul_comm (b ^ (p-1-j)),<-Nat.div_div_eq_div_mul]
   have e2:(d*b ^ L+m) / b ^ L=d:=by
    rw[Nat.mul_comm d,Nat.mul_add_div (Nat.pow_pos hb),Nat.div_eq_of_lt hm,Nat.add_zero]
   rw[e2]
  | succ i ih =>
   intro hi
   rw[<-Nat.add_assoc,Ma.fq_,Ma.fq_,ih (by lia),List.append_assoc]
   congr 3
   have e1:p+L-1-(p+i)=L-1-i:=by lia
   rw[e1]
   have e3:b ^ L=b ^ (L-1-i)*b*b ^ i:=by
    rw[<-Nat.pow_succ,<-Nat.pow_add]
    congr 1
    lia
   have e4:d*b ^ L+m=b ^ (L-1-i)*(d*b ^ i*b)+m:=by
    rw[e3]
    congr 1
    rw[Nat.mul_assoc (b ^ (L-1-i)),<-Nat.mul_assoc d,Nat.mul_comm d,Nat.mul_assoc (b ^ (L-1-i))]
    congr 1
    rw[Nat.mul_comm b,<-Nat.mul_assoc]
   rw[e4,Nat.mul_add_div (Nat.pow_pos hb),Nat.add_comm,Nat.add_mul_mod_self_right]
 exact gen L (Nat.le_refl _)
abbrev sumsN(b n:Nat)(ps:List Nat)(ws:List Int):List Int:=Ma.psums ps (Ma.wts b n ps.sum ws)
theorem cb_{b d m p:Nat}{ps:List Nat}{ws:List Int}(hb:0<b)(hm:m<b ^ ps.sum)(hw:ws.length=p+ps.sum):sumsN b (d*b ^ ps.sum+m) (p::ps) ws=ws1 b d (ws.take p)::sumsN b m ps (ws.drop p):=by
 have hl:(ws.take p).length=p:=by rw[List.length_take];lia
 have e:Ma.wts b (d*b ^ ps.sum+m) (p::ps).sum ws=Ma.wts b d p (ws.take p)++Ma.wts b m ps.sum (ws.drop p):=by
  unfold Ma.wts
  rw[List.sum_cons,gr_ b d m p ps.sum hb hm]
  conv=>lhs;rw[<-List.take_append_drop p ws]
  rw[List.zipWith_append (by rw[Ma.E_,hl])]
 show Ma.psums (p::ps) (Ma.wts b (d*b ^ ps.sum+m) (p::ps).sum ws)=_
 rw[e]
 have l1:(Ma.wts b d p (ws.take p)).length=p:=Ma.gF_ _ _ _ _ hl
 unfold Ma.psums
 rw[Ma.cuts,List.map_cons]
 congr 1
 ·rw[List.take_left' l1]
  unfold ws1
  rw[hl]
 ·rw[List.drop_left' l1]
  rfl
def tr(b:Nat):List (List Int)->(List Int->Int)->Int
 | [],F=>F []
 | row::rows,F=>tg (waysW b row) fun x=>tr b rows fun v=>F (x::v)
theorem mp_{b:Nat}(hb:0<b):∀(ps:List Nat) (ws:List Int) (F:List Int->Int),ws.length=ps.sum->ns (fun n=>F (sumsN b n ps ws)) (b ^ ps.sum)=tr b (Ma.cuts ps ws) F
 | [],ws,F,_=>by
  show ns _ (b ^ 0)=F []
  rw[Nat.pow_zero]
  simp only[ns,Int.zero_add]
  rfl
 | p::ps,ws,F,h=>by
  rw[List.sum_cons] at h
  have hl:(ws.take p).length=p:=by rw[List.length_take];lia
  rw[List.sum_cons,Nat.pow_add,iE_,Ma.cuts,tr,<-hU_,hl]
  apply Y_
  intro d _
  rw[<-mp_ hb ps (ws.drop p) _ (by rw[List.length_drop];lia)]
  apply Y_
  intro m hm
  rw[cb_ hb hm h]
theorem J_{f:List (Int×Int)}{G H:Int->Int}(h:∀x,G x=H x):tg f G=tg f H:=by
 unfold tg
 congr 1
 exact List.map_congr_left fun p _=>by rw[h]
theorem hY_{b:Nat}:∀ {rows:List (List Int)} {F G:List Int->Int},(∀v,v.length=rows.length->F v=G v)->tr b rows F=tr b rows G
 | [],_,_,h=>h [] rfl
 | _::rows,_,_,h=>J_ fun x=>hY_ fun v hv=>h (x::v) (by simp[hv])
theorem fx_(c:Int)(f:List (Int×Int))(G:Int->Int):tg f (fun x=>c*G x)=c*tg f G:=by
 induction f with
 | nil=>simp[tg]
 | cons p f ih=>rw[X_,X_,ih,Int.mul_add,<-Int.mul_assoc,<-Int.mul_assoc,Int.mul_comm p.2 c]
theorem nN_(f:List (Int×Int))(G H:Int->Int):tg f (fun x=>G x-H x)=tg f G-tg f H:=by
 induction f with
 | nil=>simp[tg]
 | cons p f ih=>rw[X_,X_,X_,ih,Int.mul_sub];lia
theorem gL_(f:List (Int×Int))(G H:Int->Int):tg f (fun x=>G x+H x)=tg f G+tg f H:=by
 induction f with
 | nil=>simp[tg]
 | cons p f ih=>rw[X_,X_,X_,ih,Int.mul_add];lia
theorem kk_{b:Nat}(c:Int):∀(rows:List (List Int)) (F:List Int->Int),tr b rows (fun v=>c*F v)=c*tr b rows F
 | [],_=>rfl
 | row::rows,F=>by
  show tg _ _=c*tg _ _
  rw[<-fx_]
  exact J_ fun x=>kk_ c rows _
theorem nK_{b:Nat}:∀(rows:List (List Int)) (F G:List Int->Int),tr b rows (fun v=>F v-G v)=tr b rows F-tr b rows G
 | [],_,_=>rfl
 | row::rows,F,G=>by
  show tg _ _=tg _ _-tg _ _
  rw[<-nN_]
  exact J_ fun x=>nK_ rows _ _
theorem kj_{b:Nat}:∀(rows:List (List Int)) (F G:List Int->Int),tr b rows (fun v=>F v+G v)=tr b rows F+tr b rows G
 | [],_,_=>rfl
 | row::rows,F,G=>by
  show tg _ _=tg _ _+tg _ _
  rw[<-gL_]
  exact J_ fun x=>kj_ rows _ _
theorem oK_{b:Nat}(rows:List (List Int)):tr b rows (fun _=>0)=0:=by
 have:=kk_ (b:=b) 0 rows fun _=>0
 simp only[Int.zero_mul] at this
 exact this
theorem qb_{b:Nat}(rows:List (List Int))(F:Int->List Int->Int)(a:Int):∀n:Nat,tr b rows (fun v=>sm (fun t=>F t v) a n)=sm (fun t=>tr b rows (F t)) a n
 | 0=>oK_ rows
 | n+1=>by
  simp only[sm]
  rw[kj_,qb_ rows F a n]
def fp(h:Int->Int)(v:List Int):Int:=v.foldl (fun m x=>m*h x) 1
theorem cp_(h:Int->Int):∀(v:List Int) (c:Int),v.foldl (fun m x=>m*h x) c=c*v.foldl (fun m x=>m*h x) 1
 | [],c=>by simp
 | x::v,c=>by
  rw[List.foldl_cons,List.foldl_cons,cp_ h v (c*h x),cp_ h v (1*h x),Int.one_mul,Int.mul_assoc]
theorem ki_{b:Nat}(h:Int->Int):∀rows:List (List Int),tr b rows (fp h)=rows.foldl (fun m row=>m*tg (waysW b row) h) 1
 | []=>rfl
 | row::rows=>by
  have e:∀(rs:List (List Int)) (c:Int),rs.foldl (fun m row=>m*tg (waysW b row) h) c=c*rs.foldl (fun m row=>m*tg (waysW b row) h) 1:=fun rs=>by
   induction rs with
   | nil=>intro c;simp
   | cons r rs ih=>intro c;rw[List.foldl_cons,List.foldl_cons,ih (c*_),ih (1*_),Int.one_mul,Int.mul_assoc]
  rw[List.foldl_cons,e rows,Int.one_mul,<-ki_ h rows]
  show tg (waysW b row) (fun x=>tr b rows fun v=>fp h (x::v))=_
  have e2:∀x,tr b rows (fun v=>fp h (x::v))=tr b rows (fp h)*h x:=fun x=>by
   rw[Int.mul_comm,<-kk_]
   exact hY_ fun v _=>by
    unfold fp
    rw[List.foldl_cons,cp_,Int.one_mul]
  rw[J_ e2,fx_,Int.mul_comm]
def iv(a:Int)(n:Nat)(x:Int):Int:=if a<=x/\x<a+n then 1 else 0
theorem dc_(x a:Int):∀n:Nat,sm (fun t=>if x=t then 1 else 0) a n=iv a n x
 | 0=>by
  unfold iv
  rw[if_neg (by lia)]
  rfl
 | n+1=>by
  simp only[sm]
  rw[dc_ x a n]
  unfold iv
  by_cases h1:a<=x/\x<a+n
  ·rw[if_pos h1,if_neg (by lia),if_pos (by push_cast;lia)]
   rfl
  ·by_cases h2:x=a+n
   ·rw[if_neg h1,if_pos h2,if_pos (by push_cast;lia)]
    rfl
   ·rw[if_neg h1,if_neg h2,if_neg (by push_cast;lia)]
    rfl
theorem cY_{t:Int}:∀ {f:List (Int×Int)},(keys f).Nodup->tg f (fun x=>if x=t then 1 else 0)=gv f t
 | [],_=>rfl
 | (a,x)::f,nd=>by
  have nd1:a∉keys f:=(List.nodup_cons.mp nd).1
  have nd2:(keys f).Nodup:=(List.nodup_cons.mp nd).2
  rw[X_,cY_ nd2]
  unfold gv
  by_cases e:a=t
  ·subst e
   rw[bE_,co_ nd1,if_pos rfl]
   simp
  ·rw[aO_ e,if_neg e]
   simp
theorem oL_(f:List (Int×Int))(F:Int->Int->Int)(a:Int):∀n:Nat,tg f (fun x=>sm (fun t=>F t x) a n)=sm (fun t=>tg f (F t)) a n
 | 0=>by
  have:=fx_ 0 f fun _=>0
  simp only[Int.zero_mul] at this
  exact this
 | n+1=>by
  simp only[sm]
  rw[gL_,oL_ f F a n]
theorem rs_{b:Nat}(row:List Int)(a:Int)(n:Nat):tg (waysW b row) (iv a n)=sm (fw b row) a n:=by
 have e:∀x,iv a n x=sm (fun t=>if x=t then 1 else 0) a n:=fun x=>(dc_ x a n).symm
 rw[J_ e,oL_ (waysW b row) (fun t x=>if x=t then 1 else 0)]
 apply am_
 intro t _ _
 exact cY_ (ew_ b row).nd
theorem qc_{b:Nat}(rows:List (List Int))(a:Int)(n:Nat):tr b rows (fp (iv a n))=pr (fws b rows) a n:=by
 rw[ki_]
 unfold pr fws
 rw[List.foldl_map]
 congr 1
 funext m row
 rw[rs_]
end Mg
namespace Mg
open Me Mq
theorem fy_{f:List (Int×Int)}{G H:Int->Int}(h:∀x∈keys f,G x=H x):tg f G=tg f H:=by
 unfold tg
 congr 1
 exact List.map_congr_left fun p hp=>by rw[h p.1 (List.mem_map.mpr ⟨p,hp,rfl⟩)]
theorem fv_{b:Nat}{lo hi:Int}:∀ {rows:List (List Int)} {F G:List Int->Int},(∀row∈rows,∀k∈keys (waysW b row),lo<=k/\k<=hi)->(∀v,v.length=rows.length->(∀x∈v,lo<=x/\x<=hi)->F v=G v)->tr b rows F=tr b rows G
 | [],_,_,_,h=>h [] rfl fun _ z=>by simp at z
 | row::rows,_,_,hk,h=>fy_ fun x hx=>fv_ (fun r hr=>hk r (by simp[hr])) fun v hv hb=>h (x::v) (by simp[hv]) fun y hy=>by
   rcases List.mem_cons.mp hy with rfl | hy
   ·exact hk row (by simp) _ hx
   ·exact hb y hy
theorem or_(q:Int->Prop)[DecidablePred q]:∀v:List Int,fp (fun x=>if q x then 1 else 0) v=if ∀x∈v,q x then 1 else 0
 | []=>by simp[fp]
 | x::v=>by
  have e:fp (fun x=>if q x then 1 else 0) (x::v)=(if q x then 1 else 0)*fp (fun x=>if q x then 1 else 0) v:=by
   unfold fp
   rw[List.foldl_cons,cp_,Int.one_mul]
  rw[e,or_ q v]
  by_cases h1:q x
  ·by_cases h2:∀y∈v,q y
   ·rw[if_pos h1,if_pos h2,if_pos (by intro y hy;rcases List.mem_cons.mp hy with rfl | hy;exact h1;exact h2 y hy)];rfl
   ·rw[if_pos h1,if_neg h2,if_neg (fun z=>h2 fun y hy=>z y (by simp[hy]))];rfl
  ·have h3:¬ ∀y∈x::v,q y:=fun z=>h1 (z x List.mem_cons_self)
   rw[if_neg h1,if_neg h3,Int.zero_mul]
def sprd(v:List Int):Int:=Ma.maxL v-Ma.minL v
theorem oy_{v:List Int}(hv:0<v.length){a:Int}{n:Nat}:(∀x∈v,a<=x/\x<a+n)↔a<=Ma.minL v/\Ma.maxL v<a+n:=by
 obtain⟨m1,m2⟩:=Ma.w_ v hv
 obtain⟨m3,m4⟩:=Ma.y_ v hv
 constructor
 ·intro h
  exact⟨(h _ m1).1,(h _ m3).2⟩
 ·rintro⟨h1,h2⟩ x hx
  have:=m2 x hx
  have:=m4 x hx
  lia
theorem rd_{v:List Int}(hv:0<v.length)(a:Int)(n:Nat):fp (iv a n) v=if a<=Ma.minL v/\Ma.maxL v<a+n then 1 else 0:=by
 have:=or_ (fun x=>a<=x/\x<a+n) v
 have e:iv a n=fun x=>if a<=x/\x<a+(n:Int) then 1 else 0:=rfl
 rw[e,this]
 by_cases h:∀x∈v,a<=x/\x<a+n
 ·rw[if_pos h,if_pos ((oy_ hv).mp h)]
 ·rw[if_neg h,if_neg fun z=>h ((oy_ hv).mpr z)]
theorem win{v:List Int}(hv:0<v.length){d:Nat}{A:Int}{N:Nat}(h1:A<=Ma.minL v)(h2:Ma.minL v<A+N):(if sprd v<=d then 1 else 0)=sm (fun a=>fp (iv a (d+1)) v-fp (iv (a+1) d) v) A N:=by
 have e:sm (fun a=>fp (iv a (d+1)) v-fp (iv (a+1) d) v) A N=sm (fun a=>if Ma.minL v=a then (if sprd v<=d then 1 else 0) else 0) A N:=by
  apply am_
  intro a _ _
  rw[rd_ hv,rd_ hv]
  unfold sprd
  obtain⟨m1,m2⟩:=Ma.w_ v hv
  obtain⟨m3,m4⟩:=Ma.y_ v hv
  have mm:=m2 _ m3
  push_cast
  by_cases q1:Ma.minL v=a
  ·rw[if_pos q1]
   by_cases q2:Ma.maxL v-Ma.minL v<=d
   ·rw[if_pos (by lia),if_neg (by lia),if_pos q2];rfl
   ·rw[if_neg (by lia),if_neg (by lia),if_neg q2];rfl
  ·rw[if_neg q1]
   by_cases q2:a<=Ma.minL v/\Ma.maxL v<a+(d+1)
   ·rw[if_pos q2,if_pos (by lia)];rfl
   ·rw[if_neg q2,if_neg (by lia)];rfl
 rw[e]
 by_cases q:sprd v<=d
 ·rw[if_pos q,dc_]
  unfold iv
  rw[if_pos ⟨h1,h2⟩]
 ·rw[if_neg q]
  refine(ak_ fun t _ _=>?_).symm
  split <;> rfl
section
variable{b:Nat}{ps:List Nat}{ws:List Int}
theorem nE_(hb:0<b)(hw:ws.length=ps.sum)(hp:0<ps.length)(d:Nat):ns (fun n=>if sprd (sumsN b n ps ws)<=d then 1 else 0) (b ^ ps.sum)=nearV b (Ma.cuts ps ws) d:=by
 rw[mp_ hb ps ws (fun v=>if sprd v<=d then 1 else 0) hw]
 have hne:0<(Ma.cuts ps ws).length:=by rw[Ma.M_];exact hp
 rw[fv_ (G:=fun v=>sm (fun a=>fp (iv a (d+1)) v-fp (iv (a+1) d) v) (Ma.minL (los b (Ma.cuts ps ws))) (Ma.maxL (his b (Ma.cuts ps ws))-Ma.minL (los b (Ma.cuts ps ws))+1).toNat) (lo:=Ma.minL (los b (Ma.cuts ps ws))) (hi:=Ma.maxL (his b (Ma.cuts ps ws)))
  (fun row hr k hk=>eq_ hb hr k hk) fun v hv hx=>?_]
 ·rw[qb_ (Ma.cuts ps ws) fun a v=>fp (iv a (d+1)) v-fp (iv (a+1) d) v]
  unfold nearV
  apply am_
  intro a _ _
  rw[nK_,qc_,qc_]
  rfl
 ·have hv0:0<v.length:=by lia
  have m1:=hx _ (Ma.w_ v hv0).1
  exact win hv0 (by lia) (by lia)
end
def cd(w:Nat->Bool)(k:Nat->Int):Nat->List (Int×Int)
 | 0=>[]
 | n+1=>if w n=true then addTo (cd w k n) (k n) 1 else cd w k n
structure Pos(f:List (Int×Int)):Prop where
 nd:(keys f).Nodup
 ps:∀p∈f,1<=p.2
end Mg
namespace Mg
open Me Mq
section
variable{b:Nat}{ps:List Nat}{ws:List Int}
end
end Mg
namespace Mu
open Me Mg
abbrev Tri:=List (Int×Int×Int)
abbrev keyT(h:Tri):List Int:=h.map (·.1)
def lookT(h:Tri)(k:Int):Option (Int×Int):=(h.find? fun q=>decide (q.1=k)).map (·.2)
abbrev gT(h:Tri)(k:Int):Int×Int:=(lookT h k).getD (0,0)
def TT(h:Tri)(A B:Int->Int):Int:=(h.map fun q=>q.2.1*A q.1+q.2.2*B q.1).sum
theorem qH_{g:Nat->Int}:∀ {n:Nat},(∀i,i<n->0<=g i)->0<=ns g n
 | 0,_=>Int.le_refl _
 | n+1,h=>by
  rw[ns]
  have:=qH_ (n:=n) fun i hi=>h i (by lia)
  have:=h n (by lia)
  lia
theorem qI_{g h:Nat->Int}:∀ {n:Nat},(∀i,i<n->g i<=h i)->ns g n<=ns h n
 | 0,_=>Int.le_refl _
 | n+1,e=>by
  rw[ns,ns]
  have:=qI_ (n:=n) fun i hi=>e i (by lia)
  have:=e n (by lia)
  lia
theorem fe_(x:Int):∀n:Nat,ns (fun _=>x) n=n*x
 | 0=>by simp[ns]
 | n+1=>by rw[ns,fe_ x n];push_cast;rw[Int.add_mul];lia
end Mu
namespace Mu
open Me Mg
theorem jX_{b d i:Nat}{r1 r2:List Int}(hb:0<b)(hi:i<b ^ r2.length):ws1 b (d*b ^ r2.length+i) (r1++r2)=ws1 b d r1+ws1 b i r2:=by
 unfold ws1 Ma.wts
 rw[List.length_append,gr_ b d i r1.length r2.length hb hi,List.zipWith_append (by rw[Ma.E_]),List.sum_append]
end Mu
namespace Hv
open PySem L2
theorem pW_{b q j:Nat}{ws:List Int}(hj:j<=ws.length):(wz (Ma.dws b q j j) ws).sum=Mg.ws1 b q (ws.take j):=by
 unfold Mg.ws1 Ma.wts
 rw[List.length_take,Nat.min_eq_left hj]
 congr 1
 have e:ws=ws.take j++ws.drop j:=(List.take_append_drop j ws).symm
 conv=>lhs;rw[e]
 unfold wz
 rw[<-List.append_nil (Ma.dws b q j j),List.zipWith_append (by rw[Ma.E_,List.length_take,Nat.min_eq_left hj])]
 simp
theorem pZ_{b q:Nat}{r:List Int}(hb0:0<b)(hb:b<=16)(hw:∀x∈r,-9<=x/\x<=9) : -(135*(r.length:Int))<=Mg.ws1 b q r/\Mg.ws1 b q r<=135*(r.length:Int):=by
 unfold Mg.ws1
 have gen:∀l:List Int,(∀y∈l,-135<=y/\y<=135)->-(135*(l.length:Int))<=l.sum/\l.sum<=135*(l.length:Int):=fun l=>by
  induction l with
  | nil=>intro _;simp
  | cons a t ih =>
   intro h
   have h1:=h a (by simp)
   have h2:=ih fun y hy=>h y (by simp[hy])
   simp only[List.sum_cons,List.length_cons]
   push_cast
   lia
 have g:=gen (Ma.wts b q r.length r) fun y hy=>by
  unfold Ma.wts at hy
  obtain⟨i,hi⟩:=List.getElem?_of_mem hy
  rw[List.getElem?_zipWith] at hi
  cases e1:(Ma.dws b q r.length r.length)[i]? with
  | none=>rw[e1] at hi;simp at hi
  | some d =>
   cases e2:r[i]? with
   | none=>rw[e1,e2] at hi;simp at hi
   | some x =>
    rw[e1,e2] at hi
    have hy':y=(d:Int)*x:=by simpa using hi.symm
    have hd:=Ma.lS_ hb0 (List.mem_of_getElem? e1)
    have hx:=hw x (List.mem_of_getElem? e2)
    have:=Me.gN_ (m:=0) (x:=0) (w:=x) (d:=d) (b:=b) ⟨by decide,by decide⟩ hx hb hd
    rw[hy']
    lia
 rw[Ma.gF_ _ _ _ _ rfl] at g
 exact g
def RowsD(H:Hp)(b j q:Nat)(rs:List Addr):Prop:=∀k a,rs[k]?=some a->H a=some (.lst (natV (Ma.dws b (q+k) j j)))/\q+k<b ^ j
theorem RowsD.keep{H H':Hp}{b j q:Nat}{rs:List Addr}(h:RowsD H b j q rs)(s:Same H H'):RowsD H' b j q rs:=fun k a e=>⟨s _ _ (h k a e).1,(h k a e).2⟩
end Hv
namespace Mu
open Me Mg
theorem nd_{lo n lo2 n2 st:Nat}(g:Nat->Int)(hr:(n=1)\/(lo2=0/\n2=st)):ns (fun i=>ns (fun j=>g ((lo+i)*st+(lo2+j))) n2) n=ns (fun i=>g (lo*st+lo2+i)) (n*n2):=by
 rcases hr with rfl | ⟨rfl,rfl⟩
 ·rw[Nat.one_mul]
  simp only[ns,Int.zero_add,Nat.add_zero]
  exact Y_ fun j _=>by rw[Nat.add_assoc]
 ·rw[iE_]
  refine Y_ fun i _=>Y_ fun j _=>?_
  rw[Nat.zero_add,Nat.add_mul,Nat.add_zero,Nat.add_assoc]
end Mu
namespace Mu
open Me Mg
theorem dig{b x m t:Nat}(ht:t<m):x % b ^ m / b ^ (m-1-t) % b=x / b ^ (m-1-t) % b:=by
 have e:b ^ m=b ^ (m-1-t)*(b*b ^ t):=by
  rw[<-Nat.pow_succ',<-Nat.pow_add]
  congr 1
  lia
 rw[e,Nat.mod_mul_right_div_self,Nat.mod_mul_right_mod]
theorem lT_{b n L i:Nat}(h:i<L):(Ma.dws b n L L)[i]?=some (n / b ^ (L-1-i) % b):=by
 unfold Ma.dws
 rw[List.getElem?_map,List.getElem?_range h]
 rfl
theorem hK_{b a pl o l:Nat}(h:o+l<=pl):((Ma.dws b a pl pl).drop o).take l=Ma.dws b (a / b ^ (pl-o-l) % b ^ l) l l:=by
 apply List.ext_getElem?
 intro t
 by_cases ht:t<l
 ·rw[List.getElem?_take_of_lt ht,List.getElem?_drop,lT_ (by lia),lT_ ht,dig ht,Nat.div_div_eq_div_mul,<-Nat.pow_add]
  have:pl-1-(o+t)=pl-o-l+(l-1-t):=by lia
  rw[this]
 ·rw[List.getElem?_eq_none (by rw[List.length_take,List.length_drop,Ma.E_];lia),List.getElem?_eq_none (by rw[Ma.E_];lia)]
theorem nB_{b a pl o l:Nat}(h:o<=pl)(h2:pl<=o+l):((Ma.dws b a pl pl).drop o).take l=Ma.dws b (a % b ^ (pl-o)) (pl-o) (pl-o):=by
 have e:((Ma.dws b a pl pl).drop o).take l=((Ma.dws b a pl pl).drop o).take (pl-o):=by
  rw[List.take_of_length_le (by rw[List.length_drop,Ma.E_];lia),List.take_of_length_le (by rw[List.length_drop,Ma.E_];lia)]
 rw[e,hK_ (by lia)]
 have:pl-o-(pl-o)=0:=by lia
 rw[this,Nat.pow_zero,Nat.div_one]
theorem nA_{b a pl o l:Nat}(h:pl<=o):((Ma.dws b a pl pl).drop o).take l=[]:=by
 rw[List.drop_of_length_le (by rw[Ma.E_];exact h)]
 simp
def pj(pl o l:Nat):Nat:=if o+l<=pl then l else if o<=pl then pl-o+1 else 0
def pq(b a pl o l:Nat):Nat:=if o+l<=pl then a / b ^ (pl-o-l) % b ^ l else if o<=pl then a % b ^ (pl-o)*b else 0
def pn(pl e o l:Nat):Nat:=if o+l<=pl then 1 else if o<=pl then e else 1
theorem ru_{pl o l:Nat}:pj pl o l<=l:=by
 unfold pj
 split
 ·exact Nat.le_refl _
 ·split <;> lia
end Mu
namespace Hv
open PySem L2
def dU_(H:Hp)(p:Addr)(b a pl e:Nat)(ps:List Nat)(bs:List Addr):Prop:=∀i l r,ps[i]?=some l->bs[i]?=some r->r≠p/\∃rs,H r=some (.lst (rs.map V.ref))/\rs.length=Mu.pn pl e (ps.take i).sum l/\(∀x∈rs,x≠p)/\RowsD H b (Mu.pj pl (ps.take i).sum l) (Mu.pq b a pl (ps.take i).sum l) rs
theorem dU_.up{H H':Hp}{p:Addr}{b a pl e:Nat}{ps:List Nat}{bs:List Addr}(h:dU_ H p b a pl e ps bs)(k:∀x o,H x=some o->x≠p->H' x=some o):dU_ H' p b a pl e ps bs:=fun i l r h1 h2=>by
 obtain⟨n1,rs,g1,g2,g3,g4⟩:=h i l r h1 h2
 exact⟨n1,rs,k _ _ g1 n1,g2,g3,fun m x e=>⟨k _ _ (g4 m x e).1 (g3 x (List.mem_of_getElem? e)),(g4 m x e).2⟩⟩
def bN_:Sp:=fun vs H Q _=>∃f A c b ps ws,∃(hd:Addr) (a pl e:Nat),vs=[.ref f,.ref hd,.int e]/\FrAt H f A c b ps ws/\H hd=some (.lst (natV (Ma.dws b a pl pl)))/\e<=b/\pl<=24/\
 ∀(p:Addr) (bs:List Addr) (H':Hp),H p=none->Same H H'->H' p=some (.lst (bs.map V.ref))->bs.length=ps.length->dU_ H' p b a pl e ps bs->Q (.ref p) H'
section
variable{P:Program}{w:World}{K:PySem.W.Frag}{mg:Str->Option Value}{base:Heap}
theorem dv_:FnScope ["frame","head","end","beginnings","start","length","given"] ["frame","head","end"] (g_ bz_):=⟨rfl,rfl,rfl,by decide +kernel,rfl,by decide +kernel,by decide +kernel⟩
theorem fY_{f:Addr}{fd:FuncData}(F:Fun K "part_beginnings" "part_beginnings" bz_ f fd)(T:Txt mg):FnOk P w K mg base CX0 1 f fd ["frame","head","end"] bN_:=by
 refine F.ok dv_ (fun vs H Q E h=>?_) (fun cdv A outer s H vs Q E hr h=>?_)
 ·obtain⟨g,A,c,b,ps,ws,hd,a,pl,e,rfl,_⟩:=h;rfl
 ·obtain⟨g,A',c,b,ps,ws,hd,a,pl,e,rfl,G,hhd,heb,hpl,k⟩:=h
  have nd:=dv_.nd
  have ok:=G.ok
  have l4:=ok.l4
  have b2:=ok.b2
  refine⟨_,b_ (j_ (i:=3) nd rfl (Or.inl rfl) (A_ c_))
   (b_ (j_ (i:=4) nd rfl (Or.inl rfl) e_)
   (b_ (V_ PassesOwn.never rfl (O_ (ixt (pv 0) e_)) (p_ (i:=5) nd rfl (Or.inl rfl))
    (b_ (j_ (i:=6) nd rfl (Or.inr rfl) (bB_ dt_ (pv 1) (br_ (pv 4)) (br_ (n_ C_ (pv 4) (pv 5)))))
    (b_ (F_ (iw_ fU_ lb_ (pv 4) (lenS T.len (by rfl) (pv 1)) (n_ C_ (pv 4) (pv 5)))
     (h_ (I_ (fS_ PySem.F.plainAttrs_list PySem.F.slot_list_append PySem.F.type_list_append ah_ (pv 3) (a_ (bt_ (g_ bz_) ["frame","head","end","beginnings","start","length","given"] ["given"] [6] rfl (H_ (by rfl) T.range (a_ (pv 2) c_)) (fun cl C s H fp=>aD_)
      (fun cl C s H fp=>n_ fV_ (pv 1) (A_ (a_ (pv 0) c_))) (by decide +kernel)) c_))))
     (h_ (I_ (fS_ PySem.F.plainAttrs_list PySem.F.slot_list_append PySem.F.type_list_append ah_ (pv 3) (a_ (A_ (a_ (pv 6) c_)) c_)))))
    (h_ (j_ (i:=4) nd rfl (Or.inl rfl) (n_ C_ (pv 4) (pv 5)))))))
   (h_ (m_ (pv 3))))),?_⟩
  refine⟨sz (by decide),fun p hp=>?_⟩
  have s1:Same H (upd H p (.lst [])):=f_ hp
  have G1:=G.keep s1
  refine⟨_,rfl,_,_,_,_,rfl,rfl,SqT.of G1.tp,rfl,A',rfl,⟨_,SqL.of G1.hp⟩,bc_ (K:=K) (a:=A') (xs:=natV ps) (fun i σ H2=>∃(bs:List Addr) (v5 v6:Option V),σ=[some (.ref g),some (.ref hd),some (.int e),some (.ref p),some (.int (((ps.take i).sum:Nat):Int)),v5,v6]/\Same H H2/\H2 p=some (.lst (bs.map V.ref))/\bs.length=i/\dU_ H2 p b a pl e ps bs)
   ⟨[],none,none,rfl,s1,d_,rfl,fun i l r _ h=>by simp at h⟩ (fun i σ H2 _ h=>by obtain⟨_,_,_,_,s2,_⟩:=h;exact SqL.of (s2 _ _ G.hp)) ?_ ?_⟩
  ·rintro i x σ H2 hx ⟨bs,v5,v6,rfl,s2,hp2,hl2,B2⟩
   obtain⟨l,hl,rfl⟩:=lr_ hx
   have hi4:i<4:=by have:=(List.getElem?_eq_some_iff.mp hl).1;lia
   generalize eo:(ps.take i).sum=o
   have es:(ps.take (i+1)).sum=o+l:=by rw[List.take_add_one,hl,List.sum_append,eo];simp
   have eg:cutV (natV (Ma.dws b a pl pl)) (some ((o:Nat):Int)) (some (((o:Nat):Int)+((l:Nat):Int)))=natV (((Ma.dws b a pl pl).drop o).take l):=by
    rw[me_]
    simp[natV,List.map_take,List.map_drop]
   refine⟨_,rfl,_,rfl,_,rfl,_,rfl,_,rfl,_,_,rfl,rfl,_,rfl,hd,_,rfl,SqL.of (s2 _ _ hhd),fun q hq=>?_⟩
   have eg':cutV (natV (Ma.dws b a pl pl)) (some ((o:Nat):Int)) (some ((fun i j=>i+j) ((o:Nat):Int) ((l:Nat):Int)))=natV (((Ma.dws b a pl pl).drop o).take l):=eg
   have s3:=f_ (o:=.lst (natV (((Ma.dws b a pl pl).drop o).take l))) hq
   have u3:(upd H2 q (.lst (natV (((Ma.dws b a pl pl).drop o).take l)))) q=_:=d_
   have epq:p≠q:=k_ hp2 hq
   rw[show(upd H2 q (.lst (cutV (natV (Ma.dws b a pl pl)) (some ((o:Nat):Int)) (some (((o:Nat):Int)+((l:Nat):Int))))))=upd H2 q (.lst (natV (((Ma.dws b a pl pl).drop o).take l))) from by rw[eg]]
   generalize upd H2 q (.lst (natV (((Ma.dws b a pl pl).drop o).take l)))=H3 at s3 u3⊢
   have p3:=s3 _ _ hp2
   have close:∀(r:Addr) (rs:List Addr) (H4:Hp),Same H3 H4->H4 r=some (.lst (rs.map V.ref))->r≠p->rs.length=Mu.pn pl e o l->(∀x∈rs,x≠p)->RowsD H4 b (Mu.pj pl o l) (Mu.pq b a pl o l) rs->
     Same H (upd H4 p (.lst (bs.map V.ref++[V.ref r])))/\(upd H4 p (.lst (bs.map V.ref++[V.ref r]))) p=some (.lst ((bs++[r]).map V.ref))/\(bs++[r]).length=i+1/\dU_ (upd H4 p (.lst (bs.map V.ref++[V.ref r]))) p b a pl e ps (bs++[r]):=fun r rs H4 s4 hr4 nr hn hne RD=>by
    refine⟨D_ ((s2.trans s3).trans s4) hp,by rw[d_,List.map_append];rfl,by simp[hl2],fun m l' r' h1 h2=>?_⟩
    have upx:∀x ob,H4 x=some ob->x≠p->(upd H4 p (.lst (bs.map V.ref++[V.ref r]))) x=some ob:=fun x ob e n=>by rw[i_ n];exact e
    by_cases hm:m<bs.length
    ·rw[List.getElem?_append_left hm] at h2
     exact dU_.up B2 (fun x ob e n=>upx x ob ((s3.trans s4) _ _ e) n) m l' r' h1 h2
    ·have hm':m=bs.length:=by
      have:=(List.getElem?_eq_some_iff.mp h2).1
      simp at this
      lia
     have hmi:m=i:=by lia
     subst hmi
     rw[List.getElem?_append_right (by lia),hm',Nat.sub_self] at h2
     have er:r=r':=by simpa using h2
     subst er
     rw[hl] at h1
     have el:l=l':=Option.some.inj h1
     subst el
     rw[eo]
     exact⟨nr,rs,upx _ _ hr4 nr,hn,hne,fun t x e=>⟨upx _ _ (RD t x e).1 (hne x (List.mem_of_getElem? e)),(RD t x e).2⟩⟩
   have one:∀H4,Same H3 H4->((Ma.dws b a pl pl).drop o).take l=Ma.dws b (Mu.pq b a pl o l) (Mu.pj pl o l) (Mu.pj pl o l)->Mu.pq b a pl o l<b ^ Mu.pj pl o l->RowsD H4 b (Mu.pj pl o l) (Mu.pq b a pl o l) [q]:=fun H4 s4 e1 e2 t x e=>by
    have ht:t=0:=by have:=(List.getElem?_eq_some_iff.mp e).1;simp at this;exact this
    subst ht
    have ex:q=x:=by simpa using e
    subst ex
    rw[Nat.add_zero,<-e1]
    exact⟨s4 _ _ u3,e2⟩
   have el0:(((natV (Ma.dws b a pl pl)).length:Nat):Int)=(pl:Int):=by rw[natV,List.length_map,Ma.E_]
   refine⟨_,rfl,_,rfl,hd,_,rfl,.inl (SqL.of (s3 _ _ (s2 _ _ hhd))),_,_,rfl,rfl,_,rfl,?_⟩
   rw[el0]
   have b0:0<b:=by lia
   have single:∀(_:((Ma.dws b a pl pl).drop o).take l=Ma.dws b (Mu.pq b a pl o l) (Mu.pj pl o l) (Mu.pj pl o l)) (_:Mu.pq b a pl o l<b ^ Mu.pj pl o l) (_:1=Mu.pn pl e o l) (d:Addr) (hd':H3 d=none),_:=fun e1 e2 e3 d hd'=>close d [q] _ (f_ (o:=.lst [.ref q]) hd') d_ (Ne.symm (k_ p3 hd')) e3 (fun x hx=>(show x=q by simpa using hx)▸Ne.symm epq) (one _ (f_ hd') e1 e2)
   by_cases hA:o+l<=pl
   ·have j1:Mu.pj pl o l=l:=by unfold Mu.pj;rw[if_pos hA]
    have j2:Mu.pq b a pl o l=a / b ^ (pl-o-l) % b ^ l:=by unfold Mu.pq;rw[if_pos hA]
    have j3:Mu.pn pl e o l=1:=by unfold Mu.pn;rw[if_pos hA]
    rw[decide_eq_true (show((o:Nat):Int)<=(pl:Int) by lia)]
    refine iteT ⟨_,rfl,_,rfl,_,_,rfl,rfl,_,_,rfl,rfl,_,rfl,?_⟩
    rw[decide_eq_false (show ¬ (pl:Int)<(o:Int)+(l:Int) by lia)]
    refine iteF ⟨_,rfl,.inl ⟨rfl,_,SqL.of p3⟩,_,rfl,sz (by simp),fun d hd'=>?_⟩
    obtain⟨c1,c2,c3,c4⟩:=single (by rw[j1,j2];exact Mu.hK_ hA) (by rw[j1,j2];exact Nat.mod_lt _ (Nat.pow_pos b0)) j3.symm d hd'
    refine⟨p,_,_,rfl,rfl,(f_ hd') _ _ p3,szl (by rw[List.length_map];lia),?_⟩
    refine⟨_,rfl,_,rfl,_,_,rfl,rfl,bs++[d],some (.int (l:Int)),some (.ref q),?_,c1,c2,c3,c4⟩
    rw[es];push_cast;rfl
   by_cases hC:pl<o
   ·have j1:Mu.pj pl o l=0:=by unfold Mu.pj;rw[if_neg hA,if_neg (by lia)]
    have j2:Mu.pq b a pl o l=0:=by unfold Mu.pq;rw[if_neg hA,if_neg (by lia)]
    have j3:Mu.pn pl e o l=1:=by unfold Mu.pn;rw[if_neg hA,if_neg (by lia)]
    rw[decide_eq_false (show ¬ ((o:Nat):Int)<=(pl:Int) by lia)]
    refine iteF ⟨_,rfl,iteF ⟨_,rfl,.inl ⟨rfl,_,SqL.of p3⟩,_,rfl,sz (by simp),fun d hd'=>?_⟩⟩
    obtain⟨c1,c2,c3,c4⟩:=single (by rw[j1,j2];exact Mu.nA_ (by lia)) (by rw[j1,j2];exact Nat.pow_pos b0) j3.symm d hd'
    refine⟨p,_,_,rfl,rfl,(f_ hd') _ _ p3,szl (by rw[List.length_map];lia),?_⟩
    refine⟨_,rfl,_,rfl,_,_,rfl,rfl,bs++[d],some (.int (l:Int)),some (.ref q),?_,c1,c2,c3,c4⟩
    rw[es];push_cast;rfl
   ·have j1:Mu.pj pl o l=pl-o+1:=by unfold Mu.pj;rw[if_neg hA,if_pos (by lia)]
    have j2:Mu.pq b a pl o l=a % b ^ (pl-o)*b:=by unfold Mu.pq;rw[if_neg hA,if_pos (by lia)]
    have j3:Mu.pn pl e o l=e:=by unfold Mu.pn;rw[if_neg hA,if_pos (by lia)]
    rw[decide_eq_true (show((o:Nat):Int)<=(pl:Int) by lia)]
    refine iteT ⟨_,rfl,_,rfl,_,_,rfl,rfl,_,_,rfl,rfl,_,rfl,?_⟩
    rw[decide_eq_true (show(pl:Int)<(o:Int)+(l:Int) by lia)]
    have eg3:=Mu.nB_ (b:=b) (a:=a) (pl:=pl) (o:=o) (l:=l) (by lia) (by lia)
    have b16:=ok.b16
    refine iteT ⟨_,rfl,.inl ⟨rfl,_,SqL.of p3⟩,_,rfl,_,rfl,by lia,by lia,bG_ (lo:=0) (n:=(e:Int).toNat) (fun m ys H4=>∃rs:List Addr,ys=rs.map V.ref/\rs.length=m/\(∀x∈rs,x≠p)/\Same H3 H4/\RowsD H4 b (pl-o+1) (a % b ^ (pl-o)*b) rs)
     ⟨[],rfl,rfl,fun x hx=>by simp at hx,Same.refl _,fun t x h=>by simp at h⟩ ?_ ?_⟩
    ·rintro m ys H4 hm ⟨rs,rfl,hrl,hne,s4,RD⟩
     have hme:m<e:=by lia
     refine⟨szl (by rw[List.length_map];lia),_,rfl,_,rfl,sz (by simp),fun t ht=>?_⟩
     have s45:Same H4 _:=f_ (o:=.lst [.int (0+(m:Int))]) ht
     have s5:=s4.trans s45
     have u5:(upd H4 t (.lst [.int (0+(m:Int))])) t=_:=d_
     generalize upd H4 t (.lst [.int (0+(m:Int))])=H5 at s45 s5 u5⊢
     refine⟨q,t,_,_,rfl,rfl,s5 _ _ u3,u5,sz (by rw[eg3,natV,List.length_map,Ma.E_];simp;lia),fun r hr'=>?_⟩
     have s6:=f_ (o:=.lst (natV (((Ma.dws b a pl pl).drop o).take l)++[.int (0+(m:Int))])) hr'
     have u6:(upd H5 r (.lst (natV (((Ma.dws b a pl pl).drop o).take l)++[.int (0+(m:Int))]))) r=_:=d_
     have s46:Same H4 (upd H5 r (.lst (natV (((Ma.dws b a pl pl).drop o).take l)++[.int (0+(m:Int))]))):=s45.trans s6
     refine⟨rs++[r],by rw[List.map_append];rfl,by simp[hrl],fun x hx=>?_,s4.trans s46,fun t' x h=>?_⟩
     ·rcases List.mem_append.mp hx with hx | hx
      ·exact hne x hx
      ·have:x=r:=by simpa using hx
       rw[this]
       exact Ne.symm (k_ (s5 _ _ p3) hr')
     ·by_cases ht':t'<rs.length
      ·rw[List.getElem?_append_left ht'] at h
       exact RD.keep s46 t' x h
      ·have e1:t'=m:=by
        have:=(List.getElem?_eq_some_iff.mp h).1
        simp at this
        lia
       subst e1
       rw[List.getElem?_append_right (by lia),hrl,Nat.sub_self] at h
       have e2:r=x:=by simpa using h
       subst e2
       have hmb:t'<b:=by lia
       refine⟨?_,?_⟩
       ·rw[u6,eg3,Mg.lR_ b _ t' (pl-o) hmb]
        simp[natV]
       ·rw[Nat.pow_succ]
        have h1:a % b ^ (pl-o)<b ^ (pl-o):=Nat.mod_lt _ (Nat.pow_pos b0)
        have h2:(a % b ^ (pl-o)+1)*b<=b ^ (pl-o)*b:=Nat.mul_le_mul_right b h1
        rw[Nat.add_mul] at h2
        lia
    ·rintro ys H4 ⟨rs,rfl,hrl,hne,s4,RD⟩ D hD
     have s5:=s4.trans (f_ (o:=.lst (rs.map V.ref)) hD)
     obtain⟨c1,c2,c3,c4⟩:=close D rs _ s5 d_ (Ne.symm (k_ (s4 _ _ p3) hD)) (by rw[j3,hrl];lia) hne (by rw[j1,j2];exact RD.keep (f_ hD))
     refine⟨p,_,_,rfl,rfl,s5 _ _ p3,szl (by rw[List.length_map];lia),?_⟩
     refine⟨_,rfl,_,rfl,_,_,rfl,rfl,bs++[D],some (.int (l:Int)),some (.ref q),?_,c1,c2,c3,c4⟩
     rw[es];push_cast;rfl
  ·rintro σ H2 ⟨bs,v5,v6,rfl,s2,hp2,hl2,B2⟩
   refine⟨_,rfl,k p bs H2 hp s2 hp2 (by rw[hl2];simp[natV]) B2⟩
end
end Hv
namespace Mu
open Me Mg
abbrev Stre:=Nat×Nat×Nat
abbrev sLo(b S:Nat)(x:Stre):Nat:=x.1*b ^ (S-x.2.1)
abbrev sN(b S:Nat)(x:Stre):Nat:=x.2.2*b ^ (S-x.2.1-1)
def strS(b S:Nat)(L:List Stre)(g:Nat->Int):Int:=(L.map fun x=>ns (fun i=>g (sLo b S x+i)) (sN b S x)).sum
structure StrOk(b S:Nat)(x:Stre):Prop where
 pl:x.2.1<S
 e1:1<=x.2.2
 eb:x.2.2<=b
 ha:x.1<b ^ x.2.1
def upTo(b S n:Nat):Nat->List Stre
 | 0=>[]
 | i+1=>upTo b S n i++if 0<n / b ^ (S-1-i) % b then [(n / b ^ (S-i),i,n / b ^ (S-1-i) % b)] else []
theorem kd_{b S n:Nat}(hb:0<b)(hn:n<b ^ S):∀i,i<=S->∀x∈upTo b S n i,StrOk b S x
 | 0,_,x,hx=>by simp[upTo] at hx
 | i+1,hi,x,hx=>by
  rw[upTo] at hx
  rcases List.mem_append.mp hx with hx | hx
  ·exact kd_ hb hn i (by lia) x hx
  ·split at hx
   ·rename_i h
    have e:x=(n / b ^ (S-i),i,n / b ^ (S-1-i) % b):=by simpa using hx
    subst e
    refine⟨by simp only;lia,h,Nat.le_of_lt (Nat.mod_lt _ hb),?_⟩
    show n / b ^ (S-i)<b ^ i
    rw[Nat.div_lt_iff_lt_mul (Nat.pow_pos hb),<-Nat.pow_add]
    have:i+(S-i)=S:=by lia
    rw[this]
    exact hn
   ·simp at hx
theorem ey_(b S n:Nat):∀i,(upTo b S n i).length<=i
 | 0=>by simp[upTo]
 | i+1=>by
  rw[upTo,List.length_append]
  have:=ey_ b S n i
  split <;> simp <;> lia
theorem mA_(b S:Nat)(L M:List Stre)(g:Nat->Int):strS b S (L++M) g=strS b S L g+strS b S M g:=by simp[strS]
theorem hW_{b S n:Nat}(hb:0<b)(hn:n<b ^ S)(g:Nat->Int):∀i,i<=S->strS b S (upTo b S n i) g=ns g (n / b ^ (S-i)*b ^ (S-i))
 | 0,_=>by
  rw[Nat.sub_zero,Nat.div_eq_of_lt hn,Nat.zero_mul]
  rfl
 | i+1,hi=>by
  rw[upTo,mA_,hW_ hb hn g i (by lia)]
  have e1:S-(i+1)=S-1-i:=by lia
  have e2:S-i=S-1-i+1:=by lia
  rw[e1]
  generalize hk:S-1-i=k at *
  have e3:n / b ^ k*b ^ k=n / b ^ (k+1)*b ^ (k+1)+n / b ^ k % b*b ^ k:=by
   have h1:=Nat.div_add_mod (n / b ^ k) b
   rw[Nat.div_div_eq_div_mul,<-Nat.pow_succ] at h1
   have h2:n / b ^ (k+1)*b ^ (k+1)=b*(n / b ^ (k+1))*b ^ k:=by
    rw[Nat.pow_succ' (m:=b) (n:=k)]
    rw[Nat.mul_comm b (n / _),Nat.mul_assoc]
   rw[h2,<-Nat.add_mul,h1]
  rw[e2,e3,gh_]
  congr 1
  split
  ·rename_i h
   have e4:S-i-1=k:=by lia
   simp only[strS,sLo,sN,List.map_cons,List.map_nil,List.sum_cons,List.sum_nil,e2,Int.add_zero]
   have e5:k+1-1=k:=by lia
   rw[e5]
  ·rename_i h
   have e6:n / b ^ k % b=0:=by lia
   rw[e6,Nat.zero_mul]
   rfl
theorem mw_{b S n:Nat}(hb:0<b)(hn:n<b ^ S)(g:Nat->Int):strS b S (upTo b S n S) g=ns g n:=by
 rw[hW_ hb hn g S (Nat.le_refl _),Nat.sub_self,Nat.pow_zero,Nat.div_one,Nat.mul_one]
theorem jZ_{b S:Nat}(hS:0<S)(g:Nat->Int):strS b S [(0,0,b)] g=ns g (b ^ S):=by
 have e:b*b ^ (S-1)=b ^ S:=by
  rw[<-Nat.pow_succ']
  congr 1
  lia
 simp only[strS,sLo,sN,List.map_cons,List.map_nil,List.sum_cons,List.sum_nil,Nat.sub_zero,Nat.zero_mul,Nat.zero_add,Int.add_zero,e]
theorem nz_{b n S i:Nat}(hb:0<b)(hn:n<b ^ S)(hi:i<=S):(Ma.dws b n S S).take i=Ma.dws b (n / b ^ (S-i)) i i:=by
 have:=hK_ (b:=b) (a:=n) (pl:=S) (o:=0) (l:=i) (by lia)
 rw[List.drop_zero,Nat.sub_zero] at this
 rw[this,Nat.mod_eq_of_lt]
 rw[Nat.div_lt_iff_lt_mul (Nat.pow_pos hb),<-Nat.pow_add]
 have:i+(S-i)=S:=by lia
 rw[this]
 exact hn
end Mu
namespace Hv
open PySem L2
def StrAt(H:Hp)(b:Nat)(t:Addr)(x:Mu.Stre):Prop:=∃h,H t=some (.tup [.ref h,.int (x.2.2:Int)])/\H h=some (.lst (natV (Ma.dws b x.1 x.2.1 x.2.1)))
theorem StrAt.keep{H H':Hp}{b:Nat}{t:Addr}{x:Mu.Stre}(h:StrAt H b t x)(s:Same H H'):StrAt H' b t x:=let ⟨a,h1,h2⟩:=h;⟨a,s _ _ h1,s _ _ h2⟩
def bM_:Sp:=fun vs H Q _=>∃f a c b ps ws,∃n:Nat,vs=[.ref f,.int n]/\FrAt H f a c b ps ws/\n<=b ^ ps.sum/\
 ∀(p:Addr) (ts:List Addr) (L:List Mu.Stre) (H':Hp),H p=none->Same H H'->H' p=some (.lst (ts.map V.ref))->Paired (StrAt H' b) ts L->L.length<=24->(∀x∈L,Mu.StrOk b ps.sum x)->(∀g,Mu.strS b ps.sum L g=Mg.ns g n)->Q (.ref p) H'
section
variable{P:Program}{w:World}{K:PySem.W.Frag}{mg:Str->Option Value}{base:Heap}
theorem du_:FnScope ["frame","n","figures"] ["frame","n"] (g_ bx_):=⟨rfl,rfl,rfl,by decide +kernel,rfl,by decide +kernel,by decide +kernel⟩
theorem fX_{f:Addr}{fd:FuncData}(F:Fun K "stretches_below" "stretches_below" bx_ f fd)(T:Txt mg)(D6:Def P w K mg base 6 "how_many" ["frame"] bi_)(D8:Def P w K mg base 8 "figures_of" ["frame","n"] cc_):FnOk P w K mg base CX0 9 f fd ["frame","n"] bM_:=by
 refine F.ok du_ (fun vs H Q E h=>?_) (fun cdv A outer s H vs Q E hr h=>?_)
 ·obtain⟨g,a,c,b,ps,ws,n,rfl,_⟩:=h;rfl
 ·obtain⟨g,a,c,b,ps,ws,n,rfl,G,hn,k⟩:=h
  have nd:=du_.nd
  have ok:=G.ok
  have hsum:=ok.sum
  have b2:=ok.b2
  have b0:0<b:=by lia
  refine⟨_,b_ (F_ (s_ cn_ (pv 1) (l_ D6 hr.mo (by rfl) (a_ (pv 0) c_)) (nomark _)) (h_ (m_ (A_ (a_ (ac_ (a_ (A_ c_) (a_ (ixt (pv 0) e_) c_))) c_)))) q_)
   (b_ (j_ (i:=2) nd rfl (Or.inr rfl) (l_ D8 hr (by rfl) (a_ (pv 0) (a_ (pv 1) c_))))
   (h_ (m_ (bt_ (g_ bx_) ["frame","n","figures"] ["figures"] [2] rfl (H_ (by rfl) T.range (a_ (lenS T.len (by rfl) (pv 2)) c_)) (fun cl C s H fp=>nX_ (s_ jr_ (ixlK K rfl (pv 1) (pv 0)) e_ (nomark _)))
    (fun cl C s H fp=>ac_ (a_ (bB_ (ik_ K rfl) (pv 1) eW_ (br_ (pv 0))) (a_ (ixlK K rfl (pv 1) (pv 0)) c_))) (by decide +kernel))))),?_⟩
  refine⟨_,rfl,_,rfl,g,a,c,b,ps,ws,rfl,G,fun H1 s1=>⟨rfl,_,rfl,?_⟩⟩
  have G1:=G.keep s1
  by_cases he:n=b ^ ps.sum
  ·rw[decide_eq_true (by rw[he])]
   refine iteT ⟨sz (by decide),fun p1 hp1=>?_⟩
   have t1:=f_ (o:=.lst []) hp1
   have G2:=G1.keep t1
   have u1:(upd H1 p1 (.lst [])) p1=_:=d_
   generalize upd H1 p1 (.lst [])=H2 at t1 G2 u1⊢
   refine⟨_,rfl,_,_,_,_,rfl,rfl,SqT.of G2.tp,rfl,sz (by simp),fun p2 hp2=>⟨sz (by simp),fun p3 hp3=>?_⟩⟩
   have t2:=f_ (o:=.tup [.ref p1,.int (b:Int)]) hp2
   have t3:=f_ (o:=.lst [.ref p2]) hp3
   refine k p3 [p2] [(0,0,b)] _ (s1.free (t1.free (t2.free hp3))) (((s1.trans t1).trans t2).trans t3) d_ (.cons ⟨p1,t3 _ _ d_,t3 _ _ (t2 _ _ u1)⟩ .nil) (by simp) (fun x hx=>?_) (fun g=>?_)
   ·have:x=(0,0,b):=by simpa using hx
    subst this
    exact⟨by simp only;lia,by simp only;lia,Nat.le_refl _,by simp⟩
   ·rw[he]
    exact Mu.jZ_ (by lia) g
  ·have hlt:n<b ^ ps.sum:=by lia
   rw[decide_eq_false (by intro z;cases z;exact he rfl)]
   refine iteF ⟨_,rfl,_,rfl,g,a,c,b,ps,ws,n,rfl,G1,hlt,fun r H2 hr1 s2 h2=>?_⟩
   have el:(natV (Ma.dws b n ps.sum ps.sum)).length=ps.sum:=by rw[natV,List.length_map,Ma.E_]
   refine⟨_,rfl,r,_,rfl,.inl (SqL.of h2),_,rfl,by lia,by lia,bG_ (lo:=0) (n:=(((natV (Ma.dws b n ps.sum ps.sum)).length:Nat):Int).toNat) (fun i ys H3=>∃ts:List Addr,ys=ts.map V.ref/\Same H2 H3/\Paired (StrAt H3 b) ts (Mu.upTo b ps.sum n i)) ⟨[],rfl,Same.refl _,.nil⟩ ?_ ?_⟩
   ·rintro i ys H3 hi ⟨ts,rfl,s3,PR⟩
    have hi':i<ps.sum:=by lia
    have tl:ts.length<=i:=by rw[Paired.length PR];exact Mu.ey_ b ps.sum n i
    have ez:(0:Int)+(i:Int)=(i:Int):=Int.zero_add _
    have ea:atI (natV (Ma.dws b n ps.sum ps.sum)) (0+(i:Int))=some (.int ((n / b ^ (ps.sum-1-i) % b:Nat):Int)):=by
     rw[ez]
     exact aJ_ (by rw[natV,List.getElem?_map,Mu.lT_ hi'];rfl)
    refine⟨szl (by rw[List.length_map];lia),_,rfl,_,rfl,aI_ (s3 _ _ h2) ea ⟨_,_,rfl,rfl,_,rfl,?_⟩⟩
    by_cases hd:0<n / b ^ (ps.sum-1-i) % b
    ·rw[decide_eq_true (by lia)]
     refine iteT ⟨_,rfl,_,rfl,_,rfl,r,_,rfl,SqL.of (s3 _ _ h2),fun q hq=>?_⟩
     have eg:cutV (natV (Ma.dws b n ps.sum ps.sum)) none (some (0+(i:Int)))=natV (Ma.dws b (n / b ^ (ps.sum-i)) i i):=by
      rw[ez,ot_,<-Mu.nz_ b0 hlt (by lia)]
      simp[natV,List.map_take]
     rw[eg]
     have t4:=f_ (o:=.lst (natV (Ma.dws b (n / b ^ (ps.sum-i)) i i))) hq
     have u4:(upd H3 q (.lst (natV (Ma.dws b (n / b ^ (ps.sum-i)) i i)))) q=_:=d_
     generalize upd H3 q (.lst (natV (Ma.dws b (n / b ^ (ps.sum-i)) i i)))=H4 at t4 u4⊢
     refine⟨_,rfl,_,rfl,aI_ (t4 _ _ (s3 _ _ h2)) ea ⟨sz (by simp),fun t ht=>?_⟩⟩
     have t5:=f_ (o:=.tup [.ref q,.int ((n / b ^ (ps.sum-1-i) % b:Nat):Int)]) ht
     refine⟨ts++[t],by rw[List.map_append];rfl,s3.trans (t4.trans t5),?_⟩
     rw[Mu.upTo,if_pos hd]
     exact Paired.snoc (L2.Paired.mapP PR fun _ _ h=>StrAt.keep h (t4.trans t5)) ⟨q,d_,t5 _ _ u4⟩
    ·rw[decide_eq_false (by lia)]
     refine iteF ⟨ts,rfl,s3,?_⟩
     rw[Mu.upTo,if_neg hd,List.append_nil]
     exact PR
   ·rintro ys H3 ⟨ts,rfl,s3,PR⟩ D hD
    have en:(((natV (Ma.dws b n ps.sum ps.sum)).length:Nat):Int).toNat=ps.sum:=by lia
    rw[en] at PR
    exact k D ts _ _ (s1.free (s2.free (s3.free hD))) ((s1.trans s2).trans (s3.trans (f_ hD))) d_ (L2.Paired.mapP PR fun _ _ h=>StrAt.keep h (f_ hD)) (Nat.le_trans (Mu.ey_ _ _ _ _) (by lia)) (Mu.kd_ b0 hlt _ (Nat.le_refl _)) (Mu.mw_ b0 hlt)
end
end Hv
namespace Mu
open Me Mg
def lo(b a pl o:Nat):Nat:=if o<=pl then a / b ^ (pl-o) else a*b ^ (o-pl)
def cn(b pl e o:Nat):Nat:=if o<=pl then 1 else e*b ^ (o-pl-1)
def plo(b a pl o l:Nat):Nat:=pq b a pl o l*b ^ (l-pj pl o l)
def pcn(b pl e o l:Nat):Nat:=pn pl e o l*b ^ (l-pj pl o l)
theorem kZ_{b a pl e o l:Nat}(hb:0<b)(he:e<=b) :
  lo b a pl (o+l)=lo b a pl o*b ^ l+plo b a pl o l/\cn b pl e (o+l)=cn b pl e o*pcn b pl e o l/\(cn b pl e o=1\/(plo b a pl o l=0/\pcn b pl e o l=b ^ l))/\plo b a pl o l+pcn b pl e o l<=b ^ l:=by
 unfold lo cn plo pcn pj pq pn
 by_cases hA:o+l<=pl
 ·have h1:o<=pl:=by lia
  simp only[if_pos hA,if_pos h1,Nat.sub_self,Nat.pow_zero,Nat.mul_one]
  have e1:pl-(o+l)=pl-o-l:=by lia
  have e2:a / b ^ (pl-o)=a / b ^ (pl-o-l) / b ^ l:=by
   rw[Nat.div_div_eq_div_mul,<-Nat.pow_add]
   congr 2
   lia
  have h2:a / b ^ (pl-o-l) % b ^ l<b ^ l:=Nat.mod_lt _ (Nat.pow_pos hb)
  refine⟨?_,trivial,.inl trivial,h2⟩
  rw[e1,e2,Nat.mul_comm]
  exact(Nat.div_add_mod _ _).symm
 ·by_cases hC:o<=pl
  ·simp only[if_neg hA,if_pos hC]
   obtain⟨m,hm⟩:∃m,m=pl-o:=⟨_,rfl⟩
   obtain⟨r,hr⟩:∃r,r=l-m-1:=⟨_,rfl⟩
   have e1:l-(pl-o+1)=r:=by lia
   have e2:o+l-pl=r+1:=by lia
   have e3:l=m+1+r:=by lia
   rw[e1,e2,<-hm]
   have hbl:b ^ l=b ^ m*b*b ^ r:=by rw[e3,Nat.pow_add,Nat.pow_succ]
   have h2:a % b ^ m<b ^ m:=Nat.mod_lt _ (Nat.pow_pos hb)
   have h3:a % b ^ m*b+e<=b ^ m*b:=by
    have:(a % b ^ m+1)*b<=b ^ m*b:=Nat.mul_le_mul_right b h2
    rw[Nat.add_mul] at this
    lia
   refine⟨?_,?_,.inl trivial,?_⟩
   ·have h4:=Nat.div_add_mod a (b ^ m)
    have h5:a*b ^ (r+1)=(b ^ m*(a / b ^ m)+a % b ^ m)*b ^ (r+1):=by rw[h4]
    rw[h5,hbl,Nat.add_mul,Nat.pow_succ']
    congr 1
    ·rw[Nat.mul_comm (b ^ m),Nat.mul_assoc,Nat.mul_assoc]
    ·rw[Nat.mul_assoc]
   ·have e4:r+1-1=r:=by lia
    rw[e4,Nat.one_mul]
   ·rw[<-Nat.add_mul,hbl]
    exact Nat.mul_le_mul_right _ h3
  ·have h1:¬ o+l<=pl:=hA
   simp only[if_neg hA,if_neg hC,Nat.zero_mul,Nat.sub_zero,Nat.one_mul,Nat.add_zero,Nat.zero_add,Nat.le_refl,and_true,or_true]
   have e1:o+l-pl=(o-pl)+l:=by lia
   have e2:o+l-pl-1=(o-pl-1)+l:=by lia
   rw[e2,e1,Nat.pow_add,Nat.pow_add]
   exact⟨(Nat.mul_assoc _ _ _).symm,(Nat.mul_assoc _ _ _).symm⟩
theorem pw_{b a pl:Nat}(ha:a<b ^ pl):lo b a pl 0=0:=by
 unfold lo
 rw[if_pos (Nat.zero_le _),Nat.sub_zero]
 exact Nat.div_eq_of_lt ha
theorem pP_(b pl e:Nat):cn b pl e 0=1:=by unfold cn;rw[if_pos (Nat.zero_le _)]
theorem qN_{b S:Nat}{x:Stre}(h:x.2.1<S):lo b x.1 x.2.1 S=sLo b S x/\cn b x.2.1 x.2.2 S=sN b S x:=by
 unfold lo cn
 rw[if_neg (by lia),if_neg (by lia)]
 exact⟨rfl,rfl⟩
end Mu
namespace Hv
open PySem L2
theorem cm_{α β:Type}{R:α->β->Prop}:∀ {as:List α} {bs:List β},Paired R as bs->∀ {i:Nat} {a:α},as[i]?=some a->∃b,bs[i]?=some b/\R a b
 | _,_,.cons h t,0,a,e=>by cases e;exact⟨_,rfl,h⟩
 | _,_,.cons h t,i+1,a,e=>by
  rw[List.getElem?_cons_succ] at e
  obtain⟨b,h1,h2⟩:=cm_ t e
  exact⟨b,by rw[List.getElem?_cons_succ];exact h1,h2⟩
theorem ei_{qs:List Addr}{i:Nat}{x:V}(h:(qs.map V.ref)[i]?=some x):∃q,qs[i]?=some q/\x=.ref q:=by
 rw[List.getElem?_map] at h
 cases e:qs[i]? with
 | none=>rw[e] at h;cases h
 | some d=>rw[e] at h;exact⟨d,rfl,(Option.some.inj h).symm⟩
end Hv
namespace Mu
open Me Mg
end Mu
namespace Mu
open Me Mg
def wg(b:Nat)(row:List Int)(one:Int):Int×Int:=(ns (fun v=>if ws1 b v row=one then 1 else 0) (b ^ row.length),ns (fun v=>if ws1 b v row=one then (v:Int) else 0) (b ^ row.length))
def lst(b:Nat)(rows:List (List Int))(one:Int):List ((Int×Int)×Int):=rows.map fun row=>(wg b row one,((b ^ row.length:Nat):Int))
theorem id_{b:Nat}(hb:0<b):∀(ps1 ps2:List Nat) (ws:List Int) (u z:Nat),u<b ^ ps1.sum->z<b ^ ps2.sum->ws.length=ps1.sum+ps2.sum->sumsN b (u*b ^ ps2.sum+z) (ps1++ps2) ws=sumsN b u ps1 (ws.take ps1.sum)++sumsN b z ps2 (ws.drop ps1.sum)
 | [],ps2,ws,u,z,hu,hz,hw=>by
  have h0:u=0:=by simpa using hu
  subst h0
  have e:sumsN b 0 [] (ws.take ([]:List Nat).sum)=[]:=rfl
  rw[e]
  simp
 | p::ps1,ps2,ws,u,z,hu,hz,hw=>by
  rw[List.sum_cons] at hu hw
  have hL0:0<b ^ ps1.sum:=Nat.pow_pos hb
  have em:u=u / b ^ ps1.sum*b ^ ps1.sum+u % b ^ ps1.sum:=by rw[Nat.mul_comm];exact(Nat.div_add_mod u _).symm
  have hm2:u % b ^ ps1.sum<b ^ ps1.sum:=Nat.mod_lt _ hL0
  have hd:u / b ^ ps1.sum<b ^ p:=Nat.div_lt_of_lt_mul (by rw[<-Nat.pow_add,Nat.add_comm];exact hu)
  rw[em]
  generalize u / b ^ ps1.sum=d at *
  generalize u % b ^ ps1.sum=m at *
  have e1:(d*b ^ ps1.sum+m)*b ^ ps2.sum+z=d*b ^ (ps1++ps2).sum+(m*b ^ ps2.sum+z):=by
   rw[List.sum_append,Nat.pow_add,Nat.add_mul,Nat.mul_assoc]
   lia
  have hlt:m*b ^ ps2.sum+z<b ^ (ps1++ps2).sum:=by
   rw[List.sum_append,Nat.pow_add]
   have:(m+1)*b ^ ps2.sum<=b ^ ps1.sum*b ^ ps2.sum:=Nat.mul_le_mul_right _ hm2
   rw[Nat.add_mul] at this
   lia
  rw[e1,List.cons_append,cb_ hb hlt (by rw[List.sum_append];lia),id_ hb ps1 ps2 (ws.drop p) m z hm2 hz (by rw[List.length_drop];lia),List.sum_cons]
  rw[cb_ hb hm2 (by rw[List.length_take];lia),List.take_take,List.drop_take,List.drop_drop,List.cons_append]
  have e2:min p (p+ps1.sum)=p:=by lia
  have e3:p+ps1.sum-p=ps1.sum:=by lia
  rw[e2,e3]
end Mu
namespace Mu
open Me Mg
end Mu
namespace Mu
open Me Mg
theorem kq_{b:Nat}(hb:0<b){ps1:List Nat}{p u v:Nat}{ws:List Int}(hu:u<b ^ ps1.sum)(hv:v<b ^ p)(hw:ps1.sum+p<=ws.length):sumsN b (u*b ^ p+v) (ps1++[p]) (ws.take (ps1.sum+p))=sumsN b u ps1 (ws.take ps1.sum)++[ws1 b v ((ws.drop ps1.sum).take p)]:=by
 have hs:[p].sum=p:=by simp
 have:=id_ hb ps1 [p] (ws.take (ps1.sum+p)) u v hu (by rw[hs];exact hv) (by rw[List.length_take,hs];lia)
 rw[hs] at this
 rw[this,List.take_take,Nat.min_eq_left (by lia),List.drop_take]
 congr 1
 have e0:ps1.sum+p-ps1.sum=p:=by lia
 rw[e0]
 have hz:(0:Nat)<b ^ ([]:List Nat).sum:=by simp
 have e1:=cb_ (b:=b) (d:=v) (m:=0) (p:=p) (ps:=[]) (ws:=(ws.drop ps1.sum).take p) hb hz (by rw[List.length_take,List.length_drop];simp;lia)
 have e2:v*b ^ ([]:List Nat).sum+0=v:=by simp
 rw[e2] at e1
 rw[e1,List.take_take,Nat.min_self]
 rfl
end Mu
namespace Mx
open Me Mg Mu
def trG:List (List (Int×Int))->(List Int->Int)->Int
 | [],F=>F []
 | g::gs,F=>tg g fun x=>trG gs fun v=>F (x::v)
theorem eb_{lo hi:Int}:∀ {gs:List (List (Int×Int))} {F G:List Int->Int},(∀g∈gs,∀k∈keys g,lo<=k/\k<=hi)->(∀v,v.length=gs.length->(∀x∈v,lo<=x/\x<=hi)->F v=G v)->trG gs F=trG gs G
 | [],_,_,_,h=>h [] rfl fun _ z=>by simp at z
 | g :: gs, _, _, hk, h => fy_ fun x hx => eb_ (fun r hr => hk r (by simp[hr])) fun v hv hb => h (x :: v) (by simp[hv]) fun y hy => by
   rcases List.mem_cons.mp hy with rfl | hy
   ·exact hk g (by simp) _ hx
   ·exact hb y hy
theorem fw_:∀ {gs:List (List (Int×Int))} {F G:List Int->Int},(∀v,v.length=gs.length->F v=G v)->trG gs F=trG gs G
 | [],_,_,h=>h [] rfl
 | _::gs,_,_,h=>J_ fun x=>fw_ fun v hv=>h (x::v) (by simp[hv])
theorem gI_(c:Int):∀(gs:List (List (Int×Int))) (F:List Int->Int),trG gs (fun v=>c*F v)=c*trG gs F
 | [],_=>rfl
 | g::gs,F=>by
  show tg _ _=c*tg _ _
  rw[<-fx_]
  exact J_ fun x=>gI_ c gs _
theorem kl_:∀(gs:List (List (Int×Int))) (F G:List Int->Int),trG gs (fun v=>F v-G v)=trG gs F-trG gs G
 | [],_,_=>rfl
 | g::gs,F,G=>by
  show tg _ _=tg _ _-tg _ _
  rw[<-nN_]
  exact J_ fun x=>kl_ gs _ _
theorem ic_:∀(gs:List (List (Int×Int))) (F G:List Int->Int),trG gs (fun v=>F v+G v)=trG gs F+trG gs G
 | [],_,_=>rfl
 | g::gs,F,G=>by
  show tg _ _=tg _ _+tg _ _
  rw[<-gL_]
  exact J_ fun x=>ic_ gs _ _
theorem my_(gs:List (List (Int×Int))):trG gs (fun _=>0)=0:=by
 have:=gI_ 0 gs fun _=>0
 simp only[Int.zero_mul] at this
 exact this
theorem nL_(gs:List (List (Int×Int)))(F:Int->List Int->Int)(a:Int):∀n:Nat,trG gs (fun v=>Mq.sm (fun t=>F t v) a n)=Mq.sm (fun t=>trG gs (F t)) a n
 | 0=>my_ gs
 | n+1=>by
  simp only[Mq.sm]
  rw[ic_,nL_ gs F a n]
theorem ib_(h:Int->Int):∀gs:List (List (Int×Int)),trG gs (fp h)=gs.foldl (fun m g=>m*tg g h) 1
 | []=>rfl
 | g::gs=>by
  have e:∀(rs:List (List (Int×Int))) (c:Int),rs.foldl (fun m g=>m*tg g h) c=c*rs.foldl (fun m g=>m*tg g h) 1:=fun rs=>by
   induction rs with
   | nil=>intro c;simp
   | cons r rs ih=>intro c;rw[List.foldl_cons,List.foldl_cons,ih (c*_),ih (1*_),Int.one_mul,Int.mul_assoc]
  rw[List.foldl_cons,e gs,Int.one_mul,<-ib_ h gs]
  show tg g (fun x=>trG gs fun v=>fp h (x::v))=_
  have e2:∀x,trG gs (fun v=>fp h (x::v))=trG gs (fp h)*h x:=fun x=>by
   rw[Int.mul_comm,<-gI_]
   exact fw_ fun v _=>by
    unfold fp
    rw[List.foldl_cons,cp_,Int.one_mul]
  rw[J_ e2,fx_,Int.mul_comm]
theorem qe_{g:List (Int×Int)}(nd:(keys g).Nodup)(a:Int)(n:Nat):tg g (iv a n)=Mq.sm (fun t=>gv g t) a n:=by
 have e:∀x,iv a n x=Mq.sm (fun t=>if x=t then 1 else 0) a n:=fun x=>(dc_ x a n).symm
 rw[J_ e,oL_ g (fun t x=>if x=t then 1 else 0)]
 apply Mq.am_
 intro t _ _
 exact cY_ nd
theorem nM_{gs:List (List (Int×Int))}(hg:∀g∈gs,DOk g)(a:Int)(n:Nat):trG gs (fp (iv a n))=Mq.pr (fG gs) a n:=by
 rw[ib_]
 unfold Mq.pr fG
 rw[List.foldl_map]
 have key:∀(rs:List (List (Int×Int))) (c:Int),(∀g∈rs,DOk g)->rs.foldl (fun m g=>m*tg g (iv a n)) c=rs.foldl (fun m g=>m*Mq.sm (fun t=>gv g t) a n) c:=fun rs=>by
  induction rs with
  | nil=>intro c _;rfl
  | cons r rs ih =>
   intro c h
   rw[List.foldl_cons,List.foldl_cons,qe_ (h r (by simp)).nd]
   exact ih _ fun g hg=>h g (by simp[hg])
 exact key gs 1 hg
theorem iK_{gs:List (List (Int×Int))}(hne:0<gs.length)(hg:∀g∈gs,DOk g)(d:Nat):nearG gs d=trG gs fun v=>if sprd v<=d then 1 else 0:=by
 have B:=hP_ hne hg
 have nl:0<(losG gs).length:=by rw[losG,List.length_map];exact hne
 have nh:0<(hisG gs).length:=by rw[hisG,List.length_map];exact hne
 rw[eb_ (G:=fun v=>Mq.sm (fun a=>fp (iv a (d+1)) v-fp (iv (a+1) d) v) (Ma.minL (losG gs)) (Ma.maxL (hisG gs)-Ma.minL (losG gs)+1).toNat) (lo:=Ma.minL (losG gs)) (hi:=Ma.maxL (hisG gs))
  (fun g hgm k hk=>⟨?_,?_⟩) fun v hv hx=>?_]
 ·rw[nL_ gs fun a v=>fp (iv a (d+1)) v-fp (iv (a+1) d) v]
  unfold nearG
  apply Mq.am_
  intro a _ _
  rw[kl_,nM_ hg,nM_ hg]
  rfl
 ·have h1:=(Ma.w_ _ (hg g hgm).ne).2 k hk
  have h2:=(Ma.w_ _ nl).2 _ (List.mem_map.mpr ⟨g,hgm,rfl⟩)
  lia
 ·have h1:=(Ma.y_ _ (hg g hgm).ne).2 k hk
  have h2:=(Ma.y_ _ nh).2 _ (List.mem_map.mpr ⟨g,hgm,rfl⟩)
  lia
 ·have hv0:0<v.length:=by lia
  have m1:=hx _ (Ma.w_ v hv0).1
  exact win hv0 (by lia) (by lia)
theorem hZ_(g:List (Int×Int)):∀(gs:List (List (Int×Int))) (F:List Int->Int),trG (gs++[g]) F=trG gs fun v=>tg g fun x=>F (v++[x])
 | [],F=>rfl
 | h::gs,F=>by
  show tg h (fun x=>trG (gs++[g]) fun v=>F (x::v))=tg h fun x=>trG gs fun v=>tg g fun y=>F (x::v++[y])
  exact J_ fun x=>hZ_ g gs _
structure RepC(g:List (Int×Int))(lo n:Nat)(s:Nat->Int):Prop where
 ok:DOk g
 eq:∀F:Int->Int,tg g F=ns (fun i=>F (s (lo+i))) n
theorem hX_{b:Nat}(hb:0<b){x:Stre}(he:x.2.2<=b)(h1:1<=x.2.2)(ha:x.1<b ^ x.2.1){ps:List Nat}{ws:List Int}(hw:ws.length=ps.sum){gs:List (List (Int×Int))}(hl:gs.length=ps.length)
  (hg:∀i l row g,ps[i]?=some l->(Ma.cuts ps ws)[i]?=some row->gs[i]?=some g->RepC g (plo b x.1 x.2.1 (ps.take i).sum l) (pcn b x.2.1 x.2.2 (ps.take i).sum l) (fun n=>ws1 b n row)) :
  ∀j,j<=ps.length->lo b x.1 x.2.1 (ps.take j).sum+cn b x.2.1 x.2.2 (ps.take j).sum<=b ^ (ps.take j).sum/\∀F:List Int->Int,trG (gs.take j) F=ns (fun k=>F (sumsN b (lo b x.1 x.2.1 (ps.take j).sum+k) (ps.take j) (ws.take (ps.take j).sum))) (cn b x.2.1 x.2.2 (ps.take j).sum)
 | 0,_=>by
  have e1:(ps.take 0).sum=0:=by simp
  rw[e1,pw_ ha,pP_]
  refine⟨by simp,fun F=>?_⟩
  show F []=_
  simp only[ns,Int.zero_add]
  rfl
 | j+1,hj=>by
  obtain⟨ih0,ih⟩:=hX_ hb he h1 ha hw hl hg j (by lia)
  obtain⟨l,hl'⟩:∃l,ps[j]?=some l:=⟨_,List.getElem?_eq_getElem (by lia)⟩
  obtain⟨g,hg'⟩:∃g,gs[j]?=some g:=⟨_,List.getElem?_eq_getElem (by lia)⟩
  have hrow:=Ma.dj_ ps ws j l hl'
  have R:=hg j l _ g hl' hrow hg'
  have st:=kZ_ (b:=b) (a:=x.1) (pl:=x.2.1) (e:=x.2.2) (o:=(ps.take j).sum) (l:=l) hb he
  have et:ps.take (j+1)=ps.take j++[l]:=by rw[List.take_add_one,hl'];rfl
  have es:(ps.take (j+1)).sum=(ps.take j).sum+l:=by rw[et,List.sum_append];simp
  have hle:(ps.take j).sum+l<=ws.length:=by
   have h2:=congrArg List.sum (List.take_append_drop (j+1) ps)
   rw[List.sum_append] at h2
   lia
  obtain⟨A,hA⟩:∃A,A=(ps.take j).sum:=⟨_,rfl⟩
  have egt:gs.take (j+1)=gs.take j++[g]:=by rw[List.take_add_one,hg'];rfl
  rw[es,st.1,st.2.1]
  refine⟨?_,fun F=>?_⟩
  ·rw[Nat.pow_add]
   have p1:=st.2.2.2
   rcases st.2.2.1 with q | ⟨q1,q2⟩
   ·rw[q] at ih0⊢
    have:(lo b x.1 x.2.1 (ps.take j).sum+1)*b ^ l<=b ^ (ps.take j).sum*b ^ l:=Nat.mul_le_mul_right _ ih0
    rw[Nat.add_mul] at this
    lia
   ·rw[q1,q2,Nat.add_zero,<-Nat.add_mul]
    exact Nat.mul_le_mul_right _ ih0
  ·rw[egt,hZ_,ih]
   have e2:∀k,k<cn b x.2.1 x.2.2 (ps.take j).sum->tg g (fun y=>F (sumsN b (lo b x.1 x.2.1 (ps.take j).sum+k) (ps.take j) (ws.take (ps.take j).sum)++[y]))=ns (fun i=>F (sumsN b ((lo b x.1 x.2.1 (ps.take j).sum+k)*b ^ l+(plo b x.1 x.2.1 (ps.take j).sum l+i)) (ps.take (j+1)) (ws.take ((ps.take j).sum+l)))) (pcn b x.2.1 x.2.2 (ps.take j).sum l):=fun k hk=>by
    rw[R.eq]
    refine Y_ fun i hi=>?_
    have hp:=st.2.2.2
    rw[et,kq_ hb (by lia) (by lia) hle]
   rw[Y_ e2,nd_ (fun m=>F (sumsN b m (ps.take (j+1)) (ws.take ((ps.take j).sum+l)))) st.2.2.1]
theorem ji_{b:Nat}(hb:0<b){x:Stre}{ps:List Nat}{ws:List Int}(SO:StrOk b ps.sum x)(hw:ws.length=ps.sum){gs:List (List (Int×Int))}(hl:gs.length=ps.length)
  (hg:∀i l row g,ps[i]?=some l->(Ma.cuts ps ws)[i]?=some row->gs[i]?=some g->RepC g (plo b x.1 x.2.1 (ps.take i).sum l) (pcn b x.2.1 x.2.2 (ps.take i).sum l) (fun n=>ws1 b n row)) (F:List Int->Int) :
  trG gs F=ns (fun k=>F (sumsN b (sLo b ps.sum x+k) ps ws)) (sN b ps.sum x):=by
 have h:=(hX_ hb SO.eb SO.e1 SO.ha hw hl hg ps.length (Nat.le_refl _)).2 F
 have e1:gs.take ps.length=gs:=by rw[<-hl,List.take_length]
 have e2:ws.take ps.sum=ws:=by rw[<-hw,List.take_length]
 have hend:=qN_ (b:=b) SO.pl
 rw[e1,List.take_length,e2,hend.1,hend.2] at h
 exact h
end Mx
namespace Mx
open Me Mg Mu
theorem tg_perm{f g:List (Int×Int)}(h:f.Perm g)(F:Int->Int):tg f F=tg g F:=by
 unfold tg
 exact Me.if_ (h.map _)
theorem tg_take{f:List (Int×Int)}{i:Nat}{p:Int×Int}(h:f[i]?=some p)(F:Int->Int):tg (f.take (i+1)) F=tg (f.take i) F+p.2*F p.1:=by
 unfold tg
 rw[List.take_add_one,h,List.map_append,List.sum_append]
 simp
theorem RepC.of{g:List (Int×Int)}{lo n:Nat}{s:Nat->Int}(o:Ok g 810)(hn:0<n)(hm:n<=16777216)(eq:∀F:Int->Int,tg g F=ns (fun i=>F (s (lo+i))) n):RepC g lo n s:=by
 have hne:0<(keys g).length:=by
  cases g with
  | nil =>
   have:=eq fun _=>1
   rw[fe_] at this
   have e:tg [] (fun _=>(1:Int))=0:=rfl
   rw[e] at this
   lia
  | cons p r=>simp[keys]
 refine⟨⟨hne,o.nd,o.bd,fun t=>?_⟩,eq⟩
 rw[<-cY_ o.nd,eq]
 refine⟨qH_ fun i _=>by split <;> decide,?_⟩
 have h1:=qI_ (g:=fun i=>if s (lo+i)=t then (1:Int) else 0) (h:=fun _=>1) (n:=n) fun i _=>by split <;> decide
 rw[fe_,Int.mul_one] at h1
 lia
end Mx
namespace Hv
open PySem L2
def dT_(H:Hp)(b:Nat)(ts:List Addr)(ws:List Int):Prop:=∀(k:Nat) (t:Addr),ts[k]?=some t->∃g,H t=some (.dK (intsD g))/\g.Perm (Me.waysW b (ws.drop k))
theorem dT_.keep{H H':Hp}{b:Nat}{ts:List Addr}{ws:List Int}(h:dT_ H b ts ws)(s:Same H H'):dT_ H' b ts ws:=fun k t e=>let ⟨g,a1,a2⟩:=h k t e;⟨g,s _ _ a1,a2⟩
def eE_:Sp:=fun vs H Q _=>∃(b:Nat) (c:Addr) (ws:List Int),vs=[.int b,.ref c]/\H c=some (.lst (ws.map V.int))/\b<=16/\(∀x∈ws,-9<=x/\x<=9)/\ws.length<=6/\
 ∀(p:Addr) (ts:List Addr) (H':Hp),H p=none->Same H H'->H' p=some (.lst (ts.map V.ref))->ts.length=ws.length+1->dT_ H' b ts ws->Q (.ref p) H'
def bf_(H:Hp)(b:Nat)(ps:List Nat)(ws:List Int)(tds:List Addr):Prop:=∀(i:Nat) (row:List Int) (d:Addr),(Ma.cuts ps ws)[i]?=some row->tds[i]?=some d->∃ts:List Addr,H d=some (.lst (ts.map V.ref))/\ts.length=row.length+1/\dT_ H b ts row
theorem bf_.keep{H H':Hp}{b:Nat}{ps:List Nat}{ws:List Int}{tds:List Addr}(h:bf_ H b ps ws tds)(s:Same H H'):bf_ H' b ps ws tds:=fun i row d a1 a2=>let ⟨ts,b1,b2,b3⟩:=h i row d a1 a2;⟨ts,s _ _ b1,b2,b3.keep s⟩
def dn_:Sp:=fun vs H Q _=>∃f a c b ps ws,vs=[.ref f]/\FrAt H f a c b ps ws/\∀(p:Addr) (tds:List Addr) (H':Hp),H p=none->Same H H'->H' p=some (.lst (tds.map V.ref))->tds.length=ps.length->bf_ H' b ps ws tds->Q (.ref p) H'
def cx_:Sp:=fun vs H Q _=>∃(b:Nat) (rl c tl:Addr) (rs ts:List Addr) (ws:List Int) (q j:Nat),vs=[.ref rl,.ref c,.ref tl]/\H rl=some (.lst (rs.map V.ref))/\H c=some (.lst (ws.map V.int))/\H tl=some (.lst (ts.map V.ref))/\ts.length=ws.length+1/\dT_ H b ts ws/\
 2<=b/\b<=16/\(∀x∈ws,-9<=x/\x<=9)/\ws.length<=6/\j<=ws.length/\RowsD H b j q rs/\0<rs.length/\
 ∀(p:Addr) (g:List (Int×Int)) (H':Hp),H p=none->Same H H'->H' p=some (.dK (intsD g))->Mx.RepC g (q*b ^ (ws.length-j)) (rs.length*b ^ (ws.length-j)) (fun n=>Mg.ws1 b n ws)->Q (.ref p) H'
section
variable{P:Program}{w:World}{K:PySem.W.Frag}{mg:Str->Option Value}{base:Heap}
theorem mC_:FnScope ["base","weights"] ["base","weights"] (g_ aA_):=⟨rfl,rfl,rfl,by decide +kernel,rfl,by decide +kernel,by decide +kernel⟩
theorem lg_{f:Addr}{fd:FuncData}(F:Fun K "tails_of_part" "tails_of_part" aA_ f fd)(T:Txt mg)(DV:Def P w K mg base 2 "ways_of_weights" ["base","weights"] eD_):FnOk P w K mg base CX0 3 f fd ["base","weights"] eE_:=by
 refine F.ok mC_ (fun vs H Q E h=>?_) (fun cdv A outer s H vs Q E hr h=>?_)
 ·obtain⟨b,c,ws,rfl,_⟩:=h;rfl
 ·obtain⟨b,c,ws,rfl,hc,hb,hw,hl6,k⟩:=h
  refine⟨_,h_ (m_ (bt_ (g_ aA_) ["base","weights"] ["base","weights"] [0,1] rfl (H_ (by rfl) T.range (a_ (n_ C_ (lenS T.len (by rfl) (pv 1)) e_) c_)) (fun cl C s H fp=>aD_)
   (fun cl C s H fp=>l_ DV hr (by rfl) (a_ (pv 1) (a_ (bB_ (ik_ K rfl) (pv 2) (br_ (pv 0)) eW_) c_))) (by decide +kernel))),?_⟩
  have el:(((ws.map V.int).length:Nat):Int)=(ws.length:Int):=by rw[List.length_map]
  refine⟨_,rfl,c,_,rfl,.inl (SqL.of hc),_,_,rfl,rfl,_,rfl,by rw[el];lia,by rw[el];lia,bG_ (lo:=0) (n:=((((ws.map V.int).length:Nat):Int)+1).toNat) (fun i ys H'=>∃ts:List Addr,ys=ts.map V.ref/\ts.length=i/\Same H H'/\dT_ H' b ts ws) ⟨[],rfl,rfl,Same.refl _,fun k t e=>by simp at e⟩ ?_ ?_⟩
  ·rintro i ys H1 hi ⟨ts,rfl,htl,s1,TC⟩
   have hi':i<=ws.length:=by rw[el] at hi;lia
   have ei:(0:Int)+(i:Int)=(i:Int):=Int.zero_add _
   rw[ei]
   refine⟨szl (by rw[List.length_map];lia),_,rfl,_,rfl,_,rfl,_,rfl,c,_,rfl,SqL.of (s1 _ _ hc),fun sl hsl=>?_⟩
   have ec:cutV (ws.map V.int) (some (i:Int)) none=(ws.drop i).map V.int:=by
    unfold cutV
    rw[HT.eN_,HT.ir_,List.length_map,Nat.min_eq_left hi',List.map_drop,List.take_of_length_le (by rw[List.length_drop,List.length_map];lia)]
   rw[ec]
   have s2:=f_ (o:=.lst ((ws.drop i).map V.int)) hsl
   have u2:(upd H1 sl (.lst ((ws.drop i).map V.int))) sl=_:=d_
   generalize upd H1 sl (.lst ((ws.drop i).map V.int))=H2 at s2 u2⊢
   refine⟨b,sl,ws.drop i,rfl,u2,hb,fun x hx=>hw x (List.mem_of_mem_drop hx),by rw[List.length_drop];lia,fun p H3 g hp s3 hp3 perm=>?_⟩
   have S3:=s1.trans (s2.trans s3)
   refine⟨ts++[p],by simp,by simp[htl],S3,fun k t e=>?_⟩
   by_cases hm:k<ts.length
   ·rw[List.getElem?_append_left hm] at e
    exact TC.keep (s2.trans s3) k t e
   ·have hk:k=i:=by
     have:=(List.getElem?_eq_some_iff.mp e).1
     simp at this
     lia
    subst hk
    rw[List.getElem?_append_right (by lia),htl,Nat.sub_self] at e
    have e1:p=t:=by simpa using e
    subst e1
    exact⟨g,hp3,perm⟩
  ·rintro ys H1 ⟨ts,rfl,htl,s1,TC⟩ l hl
   have htl':ts.length=ws.length+1:=by rw[htl,el];lia
   exact k l ts _ (s1.free hl) (s1.trans (f_ hl)) d_ htl' (TC.keep (f_ hl))
theorem kE_:FnScope ["frame"] ["frame"] (g_ ao_):=⟨rfl,rfl,rfl,by decide +kernel,rfl,by decide +kernel,by decide +kernel⟩
theorem js_{f:Addr}{fd:FuncData}(F:Fun K "tails_of_parts" "tails_of_parts" ao_ f fd)(DC:Def P w K mg base 1 "cut_by_parts" ["frame","row"] spCut)(DT:Def P w K mg base 3 "tails_of_part" ["base","weights"] eE_):FnOk P w K mg base CX0 4 f fd ["frame"] dn_:=by
 refine F.ok kE_ (fun vs H Q E h=>?_) (fun cdv A outer s H vs Q E hr h=>?_)
 ·obtain⟨g,a,c,b,ps,ws,rfl,_⟩:=h;rfl
 ·obtain⟨g,a,c,b,ps,ws,rfl,G,k⟩:=h
  have ok:=G.ok
  have l4:=ok.l4
  refine⟨_,h_ (m_ (bt_ (g_ ao_) ["frame"] ["frame"] [0] rfl (O_ (l_ DC hr.mo (by rfl) (a_ (pv 0) (a_ (ixt (pv 0) e_) c_)))) (fun cl C s H fp=>aD_)
   (fun cl C s H fp=>l_ DT hr (by rfl) (a_ (ixtK K rfl (pv 1) e_) (a_ (pv 0) c_))) (by decide +kernel))),?_⟩
  refine⟨_,rfl,_,rfl,_,_,_,_,rfl,rfl,SqT.of G.tp,rfl,g,a,c,b,ps,ws,c,ws,rfl,G,G.hw,fun wp qs H3 s3 hw3 rows=>⟨wp,rfl,⟨_,SqL.of hw3⟩,ab_ (K:=K) (a:=wp) (xs:=qs.map V.ref) (fun i ys H4=>∃tds:List Addr,ys=tds.map V.ref/\tds.length=i/\Same H3 H4/\bf_ H4 b ps ws tds)
   ⟨[],rfl,rfl,Same.refl _,fun i row d _ h=>by simp at h⟩ (fun i ys H4 _ p=>by obtain⟨_,_,_,z,_⟩:=p;exact SqL.of (z _ _ hw3)) ?_ ?_⟩⟩
  ·rintro i x ys H4 hx ⟨tds,rfl,htl,s4,TA⟩
   obtain⟨wq,hwq,rfl⟩:=ei_ hx
   obtain⟨row,hrow,hwr⟩:=cm_ rows hwq
   have hrm:row∈Ma.cuts ps ws:=List.mem_of_getElem? hrow
   have G4:=(G.keep s3).keep s4
   have hi:i<4:=by
    have h1:=(List.getElem?_eq_some_iff.mp hrow).1
    rw[Ma.M_] at h1
    lia
   refine⟨szl (by rw[List.length_map];lia),_,rfl,_,_,_,_,rfl,rfl,SqT.of G4.tp,rfl,_,rfl,b,wq,row,rfl,s4 _ _ hwr,ok.b16,fun y hy=>ok.wr y (Ma.bF_ hrm y hy),Ma.aq_ (fun p hp=>(ok.pr p hp).2) hrm,fun p ts H5 hp s5 hp5 hts5 TT=>?_⟩
   refine⟨tds++[p],by rw[List.map_append];rfl,by simp[htl],s4.trans s5,fun m row' d' a1 a2=>?_⟩
   by_cases hm:m<tds.length
   ·rw[List.getElem?_append_left hm] at a2
    exact TA.keep s5 m row' d' a1 a2
   ·have hm':m=i:=by
     have:=(List.getElem?_eq_some_iff.mp a2).1
     simp at this
     lia
    subst hm'
    rw[List.getElem?_append_right (by lia),htl,Nat.sub_self] at a2
    have e1:p=d':=by simpa using a2
    subst e1
    rw[hrow] at a1
    cases a1
    exact⟨ts,hp5,hts5,TT⟩
  ·rintro ys H4 ⟨tds,rfl,htl,s4,TA⟩ D hD
   have tdl:tds.length=ps.length:=by rw[htl,List.length_map,Paired.length rows,Ma.M_]
   exact k D tds _ (s3.free (s4.free hD)) (s3.trans (s4.trans (f_ hD))) d_ tdl (TA.keep (f_ hD))
theorem ed_:FnScope ["rows","weights","tails","ways","row","begun","tail","total"] ["rows","weights","tails"] (g_ T_):=⟨rfl,rfl,rfl,by decide +kernel,rfl,by decide +kernel,by decide +kernel⟩
theorem hr_{f:Addr}{fd:FuncData}(F:Fun K "ways_from_beginnings" "ways_from_beginnings" T_ f fd)(T:Txt mg)(DW:Def P w K mg base 1 "weighted_sum" ["figures","weights"] cv_):FnOk P w K mg base CX0 2 f fd ["rows","weights","tails"] cx_:=by
 refine F.ok ed_ (fun vs H Q E h=>?_) (fun cdv A outer s H vs Q E hr h=>?_)
 ·obtain⟨b,rl,c,tl,rs,ts,ws,q,j,rfl,_⟩:=h;rfl
 ·obtain⟨b,rl,c,tl,rs,ts,ws,q,j,rfl,hrl,hc,htl,hts,TC,hb2,hb,hw,hl6,hj,RD,hr0,k⟩:=h
  have nd:=ed_.nd
  have hu:=jL_ hr
  refine⟨_,b_ (j_ (i:=3) nd rfl (Or.inl rfl) de_)
   (b_ (V_ PassesOwn.never rfl (O_ (pv 0)) (p_ (i:=4) nd rfl (Or.inl rfl))
    (b_ (j_ (i:=5) nd rfl (Or.inl rfl) (l_ DW hr.mo (by rfl) (a_ (pv 4) (a_ (pv 1) c_))))
    (b_ (j_ (i:=6) nd rfl (Or.inl rfl) (ixl (pv 2) (lenS T.len (by rfl) (pv 4))))
    (b_ (V_ PassesOwn.never rfl (hk_ (pv 6)) (p_ (i:=7) nd rfl (Or.inl rfl))
     (h_ (hi_ hu (pv 3) (n_ C_ (pv 5) (pv 7)) (n_ C_ (df_ hu (pv 3) (n_ C_ (pv 5) (pv 7)) e_ ⟨rfl,rfl,rfl,rfl⟩) (hm_ hu (pv 6) (pv 7) (fun _ _=>rfl))) rfl)))
    (eT_ q_)))))
   (h_ (m_ (pv 3)))),?_⟩
  intro p hp
  have s0:Same H (upd H p (.dK [])):=f_ hp
  have u0:(upd H p (.dK [])) p=some (.dK (intsD [])):=d_
  generalize upd H p (.dK [])=H0 at s0 u0⊢
  have b0:0<b:=by lia
  obtain⟨r2,hr2⟩:∃r,r=ws.drop j:=⟨_,rfl⟩
  have el2:r2.length=ws.length-j:=by rw[hr2,List.length_drop]
  have ews:ws.take j++r2=ws:=by rw[hr2];exact List.take_append_drop j ws
  have hjp:q+(rs.length-1)<b ^ j:=by
   obtain⟨a,ha⟩:∃a,rs[rs.length-1]?=some a:=⟨_,List.getElem?_eq_getElem (by lia)⟩
   exact(RD _ a ha).2
  have hbig:rs.length*b ^ (ws.length-j)<=16777216:=by
   have h1:rs.length*b ^ (ws.length-j)<=b ^ j*b ^ (ws.length-j):=Nat.mul_le_mul_right _ (by lia)
   rw[<-Nat.pow_add,show j+(ws.length-j)=ws.length by lia] at h1
   have h2:b ^ ws.length<=16 ^ 6:=Nat.le_trans (Nat.pow_le_pow_left hb _) (Nat.pow_le_pow_right (by decide) hl6)
   have h16:(16:Nat) ^ 6=16777216:=by decide
   lia
  have hpos:0<rs.length*b ^ (ws.length-j):=Nat.mul_pos hr0 (Nat.pow_pos b0)
  refine⟨_,rfl,rl,rfl,⟨_,SqL.of (s0 _ _ hrl)⟩,bc_ (K:=K) (a:=rl) (xs:=rs.map V.ref) (fun i σ H2=>∃v4 v5 v6 v7,σ=[some (.ref rl),some (.ref c),some (.ref tl),some (.ref p),v4,v5,v6,v7]/\Same H H2/\∃gl,H2 p=some (.dK (intsD gl))/\Me.Ok gl 810/\∀F:Int->Int,Mg.tg gl F=Mg.ns (fun n=>F (Mg.ws1 b (q*b ^ (ws.length-j)+n) ws)) (i*b ^ (ws.length-j)))
   ⟨none,none,none,none,rfl,s0,[],u0,Me.Ok.nil,fun F=>by rw[Nat.zero_mul];rfl⟩ (fun i σ H2 _ h=>by obtain⟨_,_,_,_,_,z,_⟩:=h;exact SqL.of (z _ _ hrl)) ?_ ?_⟩
  ·rintro i x σ H2 hx ⟨v4,v5,v6,v7,rfl,s2,g0,p2,ok2,eq2⟩
   obtain⟨ra,hra,rfl⟩:=ei_ hx
   obtain⟨hrow,hlt⟩:=RD i ra hra
   refine⟨_,rfl,_,rfl,ra,c,_,ws,rfl,s2 _ _ hrow,s2 _ _ hc,hw,by rw[Ma.E_];exact hj,hl6,fun H3 s3=>?_⟩
   rw[pW_ hj]
   have S3:=s2.trans s3
   have er:(((natV (Ma.dws b (q+i) j j)).length:Nat):Int)=(j:Int):=by rw[natV,List.length_map,Ma.E_]
   obtain⟨t,e1⟩:∃t,ts[j]?=some t:=⟨_,List.getElem?_eq_getElem (by lia)⟩
   obtain⟨g,e2,perm⟩:=TC j t e1
   have ett:atI (ts.map V.ref) (j:Int)=some (.ref t):=aJ_ (by rw[List.getElem?_map,e1];rfl)
   refine⟨_,rfl,_,rfl,ra,_,rfl,.inl (SqL.of (S3 _ _ hrow)),?_⟩
   refine⟨tl,_,(((natV (Ma.dws b (q+i) j j)).length:Nat):Int),_,rfl,rfl,SqL.of (S3 _ _ htl),by rw[er];exact ett,?_⟩
   have p3:=s3 _ _ p2
   have t3:=S3 _ _ e2
   have ntp:t≠p:=k_ e2 hp
   rw[<-hr2] at perm
   have okW:=Me.cV_ (b:=b) (ws:=r2) (fun x hx=>hw x (by rw[hr2] at hx;exact List.mem_of_mem_drop hx)) hb
   have ndg:(Me.keys g).Nodup:=((perm.map _).nodup_iff).mpr okW.nd
   have bdg:∀x∈Me.keys g,-(135*(r2.length:Int))<=x/\x<=135*(r2.length:Int):=fun x hx=>okW.bd x ((perm.map Prod.fst).mem_iff.mp hx)
   generalize ebg:Mg.ws1 b (q+i) (ws.take j)=bg
   have bgb:=pZ_ (b:=b) (q:=q+i) (r:=ws.take j) b0 hb fun x hx=>hw x (List.mem_of_mem_take hx)
   have blen:(ws.take j).length=j:=by rw[List.length_take];lia
   rw[blen,ebg] at bgb
   refine⟨_,rfl,t,intsD g,rfl,t3,fun o=>fn_ (fun m σ H4=>∃v7,σ=[some (.ref rl),some (.ref c),some (.ref tl),some (.ref p),some (.ref ra),some (.int bg),some (.ref t),v7]/\H4 t=some (.frz o (.dK (intsD g)))/\Kp [t] H H4/\∃g4,H4 p=some (.dK (intsD g4))/\Me.Ok g4 810/\∀F:Int->Int,Mg.tg g4 F=Mg.tg g0 F+Mg.tg (g.take m) fun x=>F (bg+x))
    ⟨v7,rfl,d_,dL_ (Kp.of S3) (.inl (by simp)),g0,?_,ok2,fun F=>by simp[Mg.tg]⟩ (fun m σ H4 _ h=>by obtain⟨_,_,z,_⟩:=h;exact z) ?_ ?_⟩
   ·rw[i_ ntp.symm];exact p3
   ·rintro m kk v σ H4 hk ⟨v7,rfl,ft,kp4,g4,p4,ok4,eq4⟩
    obtain⟨pr,hpr,rfl,rfl⟩:=hH_ hk
    have pm:=List.mem_of_getElem? hpr
    have pb:=bdg pr.1 (List.mem_map.mpr ⟨pr,pm,rfl⟩)
    have dg:DGet H4 t (.int pr.1) (some (.int pr.2)):=by
     have z:=av_ (k:=pr.1) (.inr ⟨o,ft⟩)
     rw[Me.ba_ ndg pm] at z
     exact z
    have hlen:=Me.Ok.len (m:=810) ok4
    refine⟨_,rfl,p,rfl,.inl ⟨_,.inl p4⟩,_,rfl,_,rfl,_,_,rfl,rfl,_,av_ (.inl p4),_,rfl,_,rfl,t,.int pr.2,rfl,dg,_,_,di_ _,rfl,_,rfl,_,rfl,_,rfl,_,_,rfl,rfl,p,_,rfl,dP_ p4 (by lia),?_⟩
    refine⟨_,rfl,?_,?_,Me.addTo g4 (bg+pr.1) pr.2,d_,?_,fun F=>?_⟩
    ·rw[i_ ntp];exact ft
    ·exact dL_ kp4 (.inr hp)
    ·exact ok4.put (by lia)
    ·rw[Mg.ko_ ok4.nd,eq4 F,Mx.tg_take hpr]
     exact Int.add_assoc _ _ _
   ·rintro σ H4 ⟨v7,rfl,ft,kp4,g4,p4,ok4,eq4⟩
    have el:(intsD g).length=g.length:=by rw[intsD,List.length_map]
    rw[el,List.take_length] at eq4
    refine⟨t,o,intsD g,ft,(fun o' u z=>by
     have z':H t=some (.frz o' u):=z
     rw[e2] at z';cases z'),_,_,_,_,rfl,fun x ob e=>?_,g4,?_,ok4,fun F=>?_⟩
    ·by_cases hx:x=t
     ·rw[hx,d_,<-e2,<-hx];exact e
     ·rw[i_ hx];exact kp4 x ob e (by simpa using hx)
    ·rw[i_ ntp.symm];exact p4
    ·rw[eq4,eq2,Nat.add_mul,Nat.one_mul,Mg.gh_,Mx.tg_perm perm,<-Mg.hU_ b (fun x=>F (bg+x)) r2,<-el2]
     congr 1
     apply Mg.Y_
     intro d hd
     have e5:q*b ^ r2.length+(i*b ^ r2.length+d)=(q+i)*b ^ r2.length+d:=by rw[Nat.add_mul];lia
     have e6:=Mu.jX_ (b:=b) (d:=q+i) (i:=d) (r1:=ws.take j) (r2:=r2) b0 hd
     rw[ews,ebg] at e6
     show F _=F _
     rw[e5,e6]
  ·rintro σ H2 ⟨v4,v5,v6,v7,rfl,s2,gl,p2,ok2,eq2⟩
   rw[List.length_map] at eq2
   exact⟨_,rfl,k p gl H2 hp s2 p2 (Mx.RepC.of ok2 hpos hbig eq2)⟩
end
end Hv
namespace Mx
open Me Mg Mu
def nrI(b d:Nat)(ps:List Nat)(ws:List Int)(m:Nat):Int:=if sprd (sumsN b m ps ws)<=d then 1 else 0
def nrN(b d:Nat)(ps:List Nat)(ws:List Int)(n:Nat):Int:=ns (nrI b d ps ws) n
def nrS(b d:Nat)(ps:List Nat)(ws:List Int)(x:Stre):Int:=ns (fun i=>nrI b d ps ws (sLo b ps.sum x+i)) (sN b ps.sum x)
theorem near_stretch{b d:Nat}(hb:0<b){x:Stre}{ps:List Nat}{ws:List Int}(hp:0<ps.length)(SO:StrOk b ps.sum x)(hw:ws.length=ps.sum){gs:List (List (Int×Int))}(hl:gs.length=ps.length)
  (hg:∀i l row g,ps[i]?=some l->(Ma.cuts ps ws)[i]?=some row->gs[i]?=some g->RepC g (plo b x.1 x.2.1 (ps.take i).sum l) (pcn b x.2.1 x.2.2 (ps.take i).sum l) (fun n=>ws1 b n row)) (ok:∀g∈gs,DOk g):nearG gs d=nrS b d ps ws x:=by
 rw[iK_ (by lia) ok,ji_ hb SO hw hl hg]
 rfl
theorem nrS_sum{b d:Nat}{ps:List Nat}{ws:List Int}{L:List Stre}{n:Nat}(h:∀g,strS b ps.sum L g=ns g n):(L.map (nrS b d ps ws)).sum=nrN b d ps ws n:=by
 unfold nrN
 rw[<-h]
 rfl
end Mx
namespace Hv
open PySem L2
def rr_(H:Hp)(b:Nat)(ps:List Nat)(ws:List Int)(x:Mu.Stre)(ds:List Addr)(gs:List (List (Int×Int))):Prop:=WaysG H ds gs/\∀(i l:Nat) (row:List Int) (g:List (Int×Int)),ps[i]?=some l->(Ma.cuts ps ws)[i]?=some row->gs[i]?=some g->
 Mx.RepC g (Mu.plo b x.1 x.2.1 (ps.take i).sum l) (Mu.pcn b x.2.1 x.2.2 (ps.take i).sum l) (fun n=>Mg.ws1 b n row)
def az_:Sp:=fun vs H Q _=>∃f A c b ps ws,∃(tl hd:Addr) (tds:List Addr) (x:Mu.Stre) (d:Nat),vs=[.ref f,.ref tl,.int d,.ref hd,.int (x.2.2:Int)]/\FrAt H f A c b ps ws/\H tl=some (.lst (tds.map V.ref))/\tds.length=ps.length/\bf_ H b ps ws tds/\H hd=some (.lst (natV (Ma.dws b x.1 x.2.1 x.2.1)))/\Mu.StrOk b ps.sum x/\
 ∀H':Hp,Same H H'->Q (.int (Mx.nrS b d ps ws x)) H'
section
variable{P:Program}{w:World}{K:PySem.W.Frag}{mg:Str->Option Value}{base:Heap}
theorem cQ_:FnScope ["frame","tails_by_part","d","head","end","beginnings","weights_by_part","ways_by_part","rows","weights","tails"] ["frame","tails_by_part","d","head","end"] (g_ bT_):=⟨rfl,rfl,rfl,by decide +kernel,rfl,by decide +kernel,by decide +kernel⟩
theorem fc_{f:Addr}{fd:FuncData}(F:Fun K "count_begun" "count_begun" bT_ f fd)(T:Txt mg)(DP:Def P w K mg base 1 "part_beginnings" ["frame","head","end"] bN_)(DC:Def P w K mg base 1 "cut_by_parts" ["frame","row"] spCut)
  (DW:Def P w K mg base 2 "ways_from_beginnings" ["rows","weights","tails"] cx_) (DJ:Def P w K mg base 2 "count_spread_within" ["ways_by_part","width"] cZ_):FnOk P w K mg base CX0 3 f fd ["frame","tails_by_part","d","head","end"] az_:=by
 refine F.ok cQ_ (fun vs H Q E h=>?_) (fun cdv A outer s H vs Q E hr h=>?_)
 ·obtain⟨g,A,c,b,ps,ws,tl,hd,tds,x,d,rfl,_⟩:=h;rfl
 ·obtain⟨g,A',c,b,ps,ws,tl,hd,tds,x,d,rfl,G,htl,htd,TA,hhd,SO,k⟩:=h
  have nd:=cQ_.nd
  have ok:=G.ok
  have l4:=ok.l4
  have l2:=ok.l2
  have hsum:=ok.sum
  have hpl:=SO.pl
  refine⟨_,b_ (j_ (i:=5) nd rfl (Or.inl rfl) (l_ DP hr.mo (by rfl) (a_ (pv 0) (a_ (pv 3) (a_ (pv 4) c_)))))
   (b_ (j_ (i:=6) nd rfl (Or.inl rfl) (l_ DC hr.mo (by rfl) (a_ (pv 0) (a_ (ixt (pv 0) e_) c_))))
   (b_ (j_ (i:=7) nd rfl (Or.inl rfl) (A_ c_))
   (b_ (V_ PassesOwn.never rfl (pa_ (by rfl) T.zip (pv 5) (pv 6) (pv 1)) (ej_ rfl (z_ (p_ (i:=8) nd rfl (Or.inl rfl)) (z_ (p_ (i:=9) nd rfl (Or.inl rfl)) (z_ (p_ (i:=10) nd rfl (Or.inl rfl)) aY_))))
    (h_ (I_ (fS_ PySem.F.plainAttrs_list PySem.F.slot_list_append PySem.F.type_list_append ah_ (pv 7) (a_ (l_ DW hr (by rfl) (a_ (pv 8) (a_ (pv 9) (a_ (pv 10) c_)))) c_)))))
   (h_ (m_ (l_ DJ hr (by rfl) (a_ (pv 7) (a_ (pv 2) c_)))))))),?_⟩
  refine⟨_,rfl,_,rfl,_,rfl,g,A',c,b,ps,ws,hd,x.1,x.2.1,x.2.2,rfl,G,hhd,SO.eb,by lia,fun bp bs H1 hbp s1 hb1 hbl BA=>?_⟩
  have G1:=G.keep s1
  refine⟨_,rfl,_,rfl,_,_,_,_,rfl,rfl,SqT.of G1.tp,rfl,g,A',c,b,ps,ws,c,ws,rfl,G1,G1.hw,fun wp qs H2 s2 hw2 rows=>?_⟩
  have G2:=G1.keep s2
  have qlen:qs.length=ps.length:=by rw[Paired.length rows,Ma.M_]
  refine⟨sz (by decide),fun sl hsl=>?_⟩
  have s3:=f_ (o:=.lst []) hsl
  have hslH:H sl=none:=s1.free (s2.free hsl)
  have u3:(upd H2 sl (.lst [])) sl=_:=d_
  have S3:Same H (upd H2 sl (.lst [])):=(s1.trans s2).trans s3
  have S13:Same H1 (upd H2 sl (.lst [])):=s2.trans s3
  generalize upd H2 sl (.lst [])=H3 at s3 u3 S3 S13⊢
  refine⟨_,rfl,_,rfl,_,rfl,bp,wp,tl,rfl,rfl,rfl,⟨_,SqL.of (S13 _ _ hb1)⟩,⟨_,SqL.of (s3 _ _ hw2)⟩,⟨_,SqL.of (S3 _ _ htl)⟩,nq_ (K:=K) (a:=bp) (b:=wp) (c:=tl) (xs:=bs.map V.ref) (ys:=qs.map V.ref) (zs:=tds.map V.ref)
   (fun i σ H4=>∃(ds:List Addr) (gs:List (List (Int×Int))) (v7 v8 v9:Option V),σ=[some (.ref g),some (.ref tl),some (.int d),some (.ref hd),some (.int (x.2.2:Int)),some (.ref bp),some (.ref wp),some (.ref sl),v7,v8,v9]/\(∀y ob,H3 y=some ob->y≠sl->H4 y=some ob)/\H4 sl=some (.lst (ds.map V.ref))/\ds.length=i/\rr_ H4 b ps ws x ds gs) (by simp[hbl,qlen]) (by simp[hbl,htd])
   ⟨[],[],none,none,none,rfl,fun y ob e _=>e,u3,rfl,.nil,fun i l row d _ _ h=>by simp at h⟩ ?_ ?_ ?_⟩
  ·rintro i σ H4 _ ⟨ds,gs,v7,v8,v9,rfl,kp,_⟩
   exact⟨SqL.of (kp _ _ (S13 _ _ hb1) (k_ hb1 (s2.free hsl))),SqL.of (kp _ _ (s3 _ _ hw2) (k_ hw2 hsl)),SqL.of (kp _ _ (S3 _ _ htl) (k_ htl hslH))⟩
  ·rintro i xb xw xt σ H4 t hb hw ht ⟨ds,gs,v7,v8,v9,rfl,kp,hsl4,hdl,PR⟩ htn
   obtain⟨br,hbr,rfl⟩:=ei_ hb
   obtain⟨wq,hwq,rfl⟩:=ei_ hw
   obtain⟨td,htd',rfl⟩:=ei_ ht
   have hi:i<ps.length:=by have:=(List.getElem?_eq_some_iff.mp hbr).1;lia
   obtain⟨l,hl⟩:∃l,ps[i]?=some l:=⟨_,List.getElem?_eq_getElem hi⟩
   have hrow:=Ma.dj_ ps ws i l hl
   generalize er:(ws.drop (ps.take i).sum).take l=row at hrow
   have hrl:row.length=l:=by
    have h1:=Me.md_ ps ws ok.wl
    have h2:((Ma.cuts ps ws).map List.length)[i]?=some row.length:=by rw[List.getElem?_map,hrow];rfl
    rw[h1,hl] at h2
    exact(Option.some.inj h2).symm
   have hrm:row∈Ma.cuts ps ws:=List.mem_of_getElem? hrow
   have u5:(upd H4 t (.tup [.ref br,.ref wq,.ref td])) t=_:=d_
   have t5:=f_ (o:=.tup [.ref br,.ref wq,.ref td]) htn
   refine⟨t,_,rfl,SqT.of d_,rfl,_,_,rfl,_,_,rfl,_,_,rfl,rfl,?_⟩
   have kp5:∀y ob,H3 y=some ob->y≠sl->(upd H4 t (.tup [.ref br,.ref wq,.ref td])) y=some ob:=fun y ob e n=>t5 _ _ (kp y ob e n)
   have sl5:=t5 _ _ hsl4
   have PR5:=PR.1.keep t5
   generalize upd H4 t (.tup [.ref br,.ref wq,.ref td])=H5 at u5 t5 kp5 sl5 PR5⊢
   have U2:Same H2 H5:=fun y ob e=>kp5 _ _ (s3 _ _ e) (k_ e hsl)
   have U1:Same H1 H5:=fun y ob e=>kp5 _ _ (S13 _ _ e) (k_ e (s2.free hsl))
   have U0:Same H H5:=fun y ob e=>kp5 _ _ (S3 _ _ e) (k_ e hslH)
   have G5:=G.keep U0
   obtain⟨_,rs,hrs,hrsl,_,RD⟩:=BA i l br hl hbr
   have hwq2:H2 wq=some (.lst (row.map V.int)):=by
    obtain⟨row',hr',e'⟩:=cm_ rows hwq
    rw[hrow] at hr'
    cases hr'
    exact e'
   obtain⟨ts,ht1,ht2,ht3⟩:=TA i row td hrow htd'
   have hrs0:0<rs.length:=by
    rw[hrsl]
    have:=SO.e1
    unfold Mu.pn
    split
    ·decide
    ·split <;> lia
   refine⟨_,rfl,.inl ⟨rfl,_,SqL.of sl5⟩,_,rfl,_,rfl,_,rfl,b,br,wq,td,rs,ts,row,Mu.pq b x.1 x.2.1 (ps.take i).sum l,Mu.pj x.2.1 (ps.take i).sum l,rfl,U1 _ _ hrs,U2 _ _ hwq2,U0 _ _ ht1,ht2,ht3.keep U0,ok.b2,ok.b16,fun y hy=>ok.wr y (Ma.bF_ hrm y hy),Ma.aq_ (fun p hp=>(ok.pr p hp).2) hrm,by rw[hrl];exact Mu.ru_,RD.keep U1,hrs0,fun dp g6 H6 hdp s6 h6 R6=>?_⟩
   rw[hrl,hrsl] at R6
   have ndp:dp≠sl:=fun z=>by rw[z,sl5] at hdp;cases hdp
   have gl:gs.length=i:=by rw[<-Paired.length PR5];exact hdl
   refine⟨sl,_,_,rfl,rfl,s6 _ _ sl5,szl (by rw[List.length_map];lia),ds++[dp],gs++[g6],some (.ref br),some (.ref wq),some (.ref td),rfl,fun y ob e n=>?_,by rw[d_,List.map_append];rfl,by simp[hdl],?_,fun m l' row' d' a1 a2 a3=>?_⟩
   ·rw[i_ n]
    exact s6 _ _ (kp5 y ob e n)
   ·refine Paired.snoc (L2.Paired.mapP PR5 fun q g e=>?_) (by rw[i_ ndp];exact h6)
    rw[i_ (fun z=>by rw[z,sl5] at e;cases e)]
    exact s6 _ _ e
   ·by_cases hm:m<gs.length
    ·rw[List.getElem?_append_left hm] at a3
     exact PR.2 m l' row' d' a1 a2 a3
    ·have hm':m=i:=by
      have:=(List.getElem?_eq_some_iff.mp a3).1
      simp at this
      lia
     subst hm'
     rw[List.getElem?_append_right (by lia),gl,Nat.sub_self] at a3
     have e1:g6=d':=by simpa using a3
     subst e1
     rw[hl] at a1
     cases a1
     rw[hrow] at a2
     cases a2
     exact R6
  ·rintro σ H4 ⟨ds,gs,v7,v8,v9,rfl,kp,hsl4,hdl,PR⟩
   have U0:Same H H4:=fun y ob e=>kp _ _ (S3 _ _ e) (k_ e hslH)
   have hdl':ds.length=ps.length:=by rw[hdl,List.length_map,hbl]
   have gl:gs.length=ps.length:=by rw[<-Paired.length PR.1];exact hdl'
   have dok:∀g∈gs,Me.DOk g:=fun g hg=>by
    obtain⟨i,hi⟩:=List.getElem?_of_mem hg
    have hi':i<ps.length:=by have:=(List.getElem?_eq_some_iff.mp hi).1;lia
    exact(PR.2 i ps[i] _ g (List.getElem?_eq_getElem hi') (Ma.dj_ ps ws i _ (List.getElem?_eq_getElem hi')) hi).ok
   refine⟨_,rfl,_,rfl,sl,ds,gs,d,rfl,hsl4,PR.1,by lia,by lia,dok,fun H' s'=>?_⟩
   rw[Mx.near_stretch (by have:=ok.b2;lia) (by lia) SO ok.wl gl PR.2 dok]
   exact k H' (U0.trans s')
end
def bv_:Sp:=fun vs H Q _=>∃d:Nat,vs=[.int d]/\Q .non H
def bj_:Sp:=fun vs H Q _=>∃f A c b ps ws,∃(tl:Addr) (tds:List Addr) (d n:Nat),vs=[.ref f,.ref tl,.int d,.int n]/\FrAt H f A c b ps ws/\H tl=some (.lst (tds.map V.ref))/\tds.length=ps.length/\bf_ H b ps ws tds/\n<=b ^ ps.sum/\
 ∀H':Hp,Same H H'->Q (.int (Mx.nrN b d ps ws n)) H'
section
variable{P:Program}{w:World}{K:PySem.W.Frag}{mg:Str->Option Value}{base:Heap}
theorem jm_:FnScope ["thing"] ["thing"] (g_ dB_):=⟨rfl,rfl,rfl,by decide +kernel,rfl,by decide +kernel,by decide +kernel⟩
theorem hv_{f:Addr}{fd:FuncData}(F:Fun K "need_miss" "need_miss" dB_ f fd)(D1:Def P w K mg base 1 "is_whole" ["thing"] dm_):FnOk P w K mg base CX0 2 f fd ["thing"] bv_:=by
 refine F.ok jm_ (fun vs H Q E h=>?_) (fun cdv A outer s H vs Q E hr h=>?_)
 ·obtain⟨d,rfl,_⟩:=h;rfl
 ·obtain⟨d,rfl,k⟩:=h
  refine⟨_,h_ (F_ (PW.pt (eR_ (al_ (ag_ (l_ D1 hr (by rfl) (a_ (pv 0) c_)))) (cR_ (s_ lb_ (pv 0) e_ (nomark _))))) Q_ q_),?_⟩
  refine⟨_,rfl,.int d,rfl,.int _,_,rfl,iteF ⟨_,rfl,_,_,rfl,rfl,_,rfl,?_⟩⟩
  have e:decide ((d:Int)<0)=false:=decide_eq_false (by lia)
  rw[e]
  exact iteF k
theorem cP_:FnScope ["frame","tails_by_part","d","n"] ["frame","tails_by_part","d","n"] (g_ au_):=⟨rfl,rfl,rfl,by decide +kernel,rfl,by decide +kernel,by decide +kernel⟩
theorem fb_{f:Addr}{fd:FuncData}(F:Fun K "count_below" "count_below" au_ f fd)(T:Txt mg)(DS:Def P w K mg base 9 "stretches_below" ["frame","n"] bM_)(DW:Def P w K mg base 3 "count_begun" ["frame","tails_by_part","d","head","end"] az_):FnOk P w K mg base CX0 10 f fd ["frame","tails_by_part","d","n"] bj_:=by
 refine F.ok cP_ (fun vs H Q E h=>?_) (fun cdv A outer s H vs Q E hr h=>?_)
 ·obtain⟨g,A,c,b,ps,ws,tl,tds,d,n,rfl,_⟩:=h;rfl
 ·obtain⟨g,A',c,b,ps,ws,tl,tds,d,n,rfl,G,htl,tdl,TA,hn,k⟩:=h
  have nd:=cP_.nd
  have ok:=G.ok
  have nd2:List.Nodup (["head","end","frame","tails_by_part","d"]:List Str):=by decide +kernel
  refine⟨_,h_ (m_ (o_ (cs_ rfl) (by rfl) T.sum boot_sum (a_ (hn_ (N:=["head","end","frame","tails_by_part","d"]) (k:=2) (fr:=[0,1,2]) (cmpS (sc:=g_ au_) (NX:=["frame","tails_by_part","d","n"]) (k:=2) (fr:=[0,1,2]) rfl rfl (by decide +kernel))
    (cmpF (sc:=g_ au_) (NX:=["frame","tails_by_part","d","n"]) rfl (by decide +kernel)) rfl (O_ (l_ DS hr (by rfl) (a_ (pv 0) (a_ (pv 3) c_))))
    (fun cl C s H fp=>eX_ K rfl rfl (z_ (p_ (i:=0) nd2 rfl (Or.inl rfl)) (z_ (p_ (i:=1) nd2 rfl (Or.inl rfl)) aY_))) iW_ (fun cl C s H fp=>aD_)
    (fun cl C s H fp=>l_ DW hr.mo (by rfl) (a_ (pv 2) (a_ (pv 3) (a_ (pv 4) (a_ (pv 0) (a_ (pv 1) c_))))))) c_))),?_⟩
  refine⟨_,rfl,_,rfl,g,A',c,b,ps,ws,n,rfl,G,hn,fun p ts L H6 hp s6 hp6 PR hL SO hg=>⟨p,rfl,⟨_,SqL.of hp6⟩,ab_ (K:=K) (a:=p) (xs:=ts.map V.ref) (fun i ys H7=>ys=((L.take i).map (Mx.nrS b d ps ws)).map V.int/\Same H6 H7)
    ⟨by simp,Same.refl _⟩ (fun i ys H7 _ q=>SqL.of (q.2 _ _ hp6)) ?_ ?_⟩⟩
  ·rintro i x ys H7 hx ⟨rfl,s7⟩
   obtain⟨t,ht,rfl⟩:=ei_ hx
   obtain⟨x',hx',hh,h1,h2⟩:=cm_ PR ht
   have S7:=s6.trans s7
   refine⟨szl (by rw[List.length_map,List.length_map,List.length_take];lia),t,_,rfl,SqT.of (s7 _ _ h1),rfl,_,_,rfl,_,_,rfl,rfl,_,rfl,_,rfl,_,rfl,_,rfl,_,rfl,g,A',c,b,ps,ws,tl,hh,tds,x',d,rfl,G.keep S7,S7 _ _ htl,tdl,TA.keep S7,s7 _ _ h2,SO x' (List.mem_of_getElem? hx'),fun H8 s8=>?_⟩
   refine⟨?_,s7.trans s8⟩
   rw[List.take_add_one,hx']
   simp
  ·rintro ys H7 ⟨rfl,s7⟩ wl hwl
   have el:(ts.map V.ref).length=L.length:=by rw[List.length_map,Paired.length PR]
   rw[el,List.take_length]
   refine⟨wl,_,rfl,SqL.of d_,?_⟩
   rw[Mx.nrS_sum hg]
   exact k _ (s6.trans (s7.trans (f_ hwl)))
end
end Hv
namespace Mx
open Me Mg Mu
theorem nrI_01(b d:Nat)(ps:List Nat)(ws:List Int)(m:Nat):nrI b d ps ws m=0\/nrI b d ps ws m=1:=by
 unfold nrI
 split
 ·exact .inr rfl
 ·exact .inl rfl
theorem nrN_succ(b d:Nat)(ps:List Nat)(ws:List Int)(n:Nat):nrN b d ps ws (n+1)=nrN b d ps ws n+nrI b d ps ws n:=rfl
theorem iG_(b d:Nat)(ps:List Nat)(ws:List Int)(n:Nat):∀m,nrN b d ps ws n<=nrN b d ps ws (n+m)
 | 0=>Int.le_refl _
 | m+1=>by
  have:=iG_ b d ps ws n m
  rw[<-Nat.add_assoc,nrN_succ]
  rcases nrI_01 b d ps ws (n+m) with h | h <;> lia
theorem dh_(b d:Nat)(ps:List Nat)(ws:List Int)(a pl e:Nat):nrN b d ps ws (a*b ^ (ps.sum-pl)+e*b ^ (ps.sum-pl-1))=nrN b d ps ws (a*b ^ (ps.sum-pl))+nrS b d ps ws (a,pl,e):=by
 unfold nrN nrS
 rw[gh_]
theorem nrS_zero(b d:Nat)(ps:List Nat)(ws:List Int)(a pl:Nat):nrS b d ps ws (a,pl,0)=0:=by
 have:=dh_ b d ps ws a pl 0
 rw[Nat.zero_mul,Nat.add_zero] at this
 lia
theorem kQ_{b S i:Nat}(hi:i<S):b ^ (S-i)=b*b ^ (S-i-1):=by
 rw[show S-i=(S-i-1)+1 by lia,Nat.pow_succ,Nat.mul_comm]
 rfl
theorem at_step{b d S a i fg r r' k:Nat}{ps:List Nat}{ws:List Int}(hS:ps.sum=S)(hi:i<S)(h1:nrN b d ps ws (a*b ^ (S-i))+r=k)(h3:nrS b d ps ws (a,i,fg)+r'=r)(h4:(r:Int)<nrS b d ps ws (a,i,fg+1)) :
  nrN b d ps ws ((a*b+fg)*b ^ (S-(i+1)))+r'=k/\(k:Int)<nrN b d ps ws ((a*b+fg)*b ^ (S-(i+1))+b ^ (S-(i+1))):=by
 subst hS
 have e1:(a*b+fg)*b ^ (ps.sum-(i+1))=a*b ^ (ps.sum-i)+fg*b ^ (ps.sum-i-1):=by
  rw[kQ_ hi,Nat.add_mul,Nat.mul_assoc]
  rfl
 have e2:(a*b+fg)*b ^ (ps.sum-(i+1))+b ^ (ps.sum-(i+1))=a*b ^ (ps.sum-i)+(fg+1)*b ^ (ps.sum-i-1):=by
  rw[e1,Nat.add_mul fg 1,Nat.one_mul,Nat.add_assoc]
  rfl
 rw[e2,e1,dh_,dh_]
 lia
theorem at_head{b d S a i r k:Nat}{ps:List Nat}{ws:List Int}(hS:ps.sum=S)(hi:i<S)(h1:nrN b d ps ws (a*b ^ (S-i))+r=k)(h2:(k:Int)<nrN b d ps ws (a*b ^ (S-i)+b ^ (S-i))):(r:Int)<nrS b d ps ws (a,i,b):=by
 subst hS
 have:=dh_ b d ps ws a i b
 rw[<-kQ_ hi] at this
 lia
end Mx
namespace Hv
open PySem L2
def ds_:Sp:=fun vs H Q _=>∃f A c b ps ws,∃(tl hd:Addr) (tds:List Addr) (a pl d k:Nat),vs=[.ref f,.ref tl,.int d,.ref hd,.int k]/\FrAt H f A c b ps ws/\H tl=some (.lst (tds.map V.ref))/\tds.length=ps.length/\bf_ H b ps ws tds/\H hd=some (.lst (natV (Ma.dws b a pl pl)))/\pl<ps.sum/\a<b ^ pl/\
 (k:Int)<Mx.nrS b d ps ws (a,pl,b)/\
 ∀(t:Addr) (fg r:Nat) (H':Hp),Same H H'->H' t=some (.tup [.int fg,.int r])->fg<b->Mx.nrS b d ps ws (a,pl,fg)+r=k->(k:Int)<Mx.nrS b d ps ws (a,pl,fg+1)->Q (.ref t) H'
def cz_:Sp:=fun vs H Q _=>∃f A c b ps ws,∃(tl:Addr) (tds:List Addr) (d k:Nat),vs=[.ref f,.ref tl,.int d,.int k]/\FrAt H f A c b ps ws/\H tl=some (.lst (tds.map V.ref))/\tds.length=ps.length/\bf_ H b ps ws tds/\
 (∀H':Hp,Same H H'->Mx.nrN b d ps ws (b ^ ps.sum)<=k->Q .non H')/\∀(m:Nat) (H':Hp),Same H H'->m<b ^ ps.sum->Mx.nrI b d ps ws m=1->Mx.nrN b d ps ws m=k->Q (.int m) H'
section
variable{P:Program}{w:World}{K:PySem.W.Frag}{mg:Str->Option Value}{base:Heap}
theorem fK_:FnScope ["frame","tails_by_part","d","head","k","figure","passed","beyond","middle","count"] ["frame","tails_by_part","d","head","k"] (g_ aH_):=⟨rfl,rfl,rfl,by decide +kernel,rfl,by decide +kernel,by decide +kernel⟩
theorem jy_{f:Addr}{fd:FuncData}(F:Fun K "figure_and_rest" "figure_and_rest" aH_ f fd)(DB:Def P w K mg base 3 "count_begun" ["frame","tails_by_part","d","head","end"] az_):FnOk P w K mg base CX0 4 f fd ["frame","tails_by_part","d","head","k"] ds_:=by
 refine F.ok fK_ (fun vs H Q E h=>?_) (fun cdv A outer s H vs Q E hr h=>?_)
 ·obtain⟨g,A,c,b,ps,ws,tl,hd,tds,a,pl,d,k,rfl,_⟩:=h;rfl
 ·obtain⟨g,A',c,b,ps,ws,tl,hd,tds,a,pl,d,n,rfl,G,htl,tdl,TA,hhd,hpl,ha,hn,k⟩:=h
  have nd:=fK_.nd
  have ok:=G.ok
  have b2:=ok.b2
  refine⟨_,b_ (j_ (i:=5) nd rfl (Or.inl rfl) e_)
   (b_ (j_ (i:=6) nd rfl (Or.inl rfl) e_)
   (b_ (j_ (i:=7) nd rfl (Or.inl rfl) (ixt (pv 0) e_))
   (b_ (mJ_ PassesOwn.never (s_ jr_ (n_ W_ (pv 7) (pv 5)) e_ (nomark _))
    (b_ (j_ (i:=8) nd rfl (Or.inl rfl) (n_ eZ_ (n_ C_ (pv 5) (pv 7)) e_))
    (b_ (j_ (i:=9) nd rfl (Or.inl rfl) (l_ DB hr (by rfl) (a_ (pv 0) (a_ (pv 1) (a_ (pv 2) (a_ (pv 3) (a_ (pv 8) c_)))))))
    (h_ (F_ (s_ fU_ (pv 9) (pv 4) (nomark _))
     (b_ (j_ (i:=5) nd rfl (Or.inl rfl) (pv 8)) (h_ (j_ (i:=6) nd rfl (Or.inl rfl) (pv 9))))
     (h_ (j_ (i:=7) nd rfl (Or.inl rfl) (pv 8))))))))
   (h_ (m_ (ac_ (a_ (pv 5) (a_ (n_ W_ (pv 4) (pv 6)) c_)))))))),?_⟩
  have e0:=Mx.nrS_zero b d ps ws a pl
  refine⟨_,rfl,_,_,_,_,rfl,rfl,SqT.of G.tp,rfl,?_⟩
  refine⟨fun mu σ H'=>∃(fg be:Nat) (v8 v9:Option V),σ=[some (.ref g),some (.ref tl),some (.int d),some (.ref hd),some (.int n),some (.int fg),some (.int (Mx.nrS b d ps ws (a,pl,fg))),some (.int be),v8,v9]/\mu=be-fg/\fg<be/\be<=b/\Same H H'/\Mx.nrS b d ps ws (a,pl,fg)<=n/\(n:Int)<Mx.nrS b d ps ws (a,pl,be),
   ⟨_,0,b,none,none,by rw[e0];rfl,rfl,by lia,Nat.le_refl _,Same.refl _,by rw[e0];lia,hn⟩,?_⟩
  rintro mu σ H1 ⟨fg,be,v8,v9,rfl,rfl,hfb,hbe,s1,c1,c2⟩
  refine⟨_,rfl,_,rfl,_,_,rfl,rfl,_,_,rfl,rfl,_,rfl,ite2 (fun hlt=>?_) (fun hge=>?_)⟩
  ·have hlt':(1:Int)<(be:Int)-fg:=of_decide_eq_true hlt
   refine⟨fun σ' H'=>∃(fg' be':Nat) (v8 v9:Option V),σ'=[some (.ref g),some (.ref tl),some (.int d),some (.ref hd),some (.int n),some (.int fg'),some (.int (Mx.nrS b d ps ws (a,pl,fg'))),some (.int be'),v8,v9]/\be' - fg'<be-fg/\fg'<be'/\be'<=b/\Same H H'/\Mx.nrS b d ps ws (a,pl,fg')<=n/\(n:Int)<Mx.nrS b d ps ws (a,pl,be'),
    fun σ' H' ⟨fg',be',v8,v9,h1,h2,h3,h4,h5,h6,h7⟩=>⟨be' - fg',h2,fg',be',v8,v9,h1,rfl,h3,h4,h5,h6,h7⟩,?_⟩
   have em:((fg:Int)+(be:Int)) / 2=(((fg+be) / 2:Nat):Int):=by lia
   refine⟨_,rfl,_,rfl,_,_,rfl,rfl,_,_,rfl,rfl,⟨by decide,by decide⟩,?_⟩
   dsimp only
   rw[em]
   generalize hmd:(fg+be) / 2=md
   have hm1:fg<md:=by lia
   have hm2:md<be:=by lia
   refine⟨_,rfl,_,rfl,_,rfl,_,rfl,_,rfl,g,A',c,b,ps,ws,tl,hd,tds,(a,pl,md),d,rfl,G.keep s1,s1 _ _ htl,tdl,TA.keep s1,s1 _ _ hhd,⟨hpl,by show 1<=md;lia,by show md<=b;lia,ha⟩,fun H2 s2=>?_⟩
   refine⟨_,rfl,_,rfl,_,_,rfl,rfl,_,rfl,ite2 (fun hle=>?_) (fun hgt=>?_)⟩
   ·have hle':Mx.nrS b d ps ws (a,pl,md)<=(n:Int):=of_decide_eq_true hle
    exact⟨_,rfl,_,rfl,md,be,_,_,rfl,by lia,hm2,hbe,s1.trans s2,hle',c2⟩
   ·have hgt':¬ Mx.nrS b d ps ws (a,pl,md)<=(n:Int):=fun z=>hgt (decide_eq_true z)
    exact⟨_,rfl,fg,md,_,_,rfl,by lia,hm1,by lia,s1.trans s2,c1,by lia⟩
  ·have hge':¬ (1:Int)<(be:Int)-fg:=fun z=>hge (decide_eq_true z)
   have ebe:be=fg+1:=by lia
   subst ebe
   obtain⟨r,hr'⟩:∃r:Nat,(n:Int)-Mx.nrS b d ps ws (a,pl,fg)=(r:Int):=⟨((n:Int)-Mx.nrS b d ps ws (a,pl,fg)).toNat,by lia⟩
   refine⟨_,rfl,_,rfl,_,rfl,_,_,rfl,rfl,sz (by simp),fun t ht=>?_⟩
   dsimp only
   rw[hr']
   exact k t fg r _ (s1.trans (f_ ht)) d_ (by lia) (by lia) c2
theorem eg_:FnScope ["frame","tails_by_part","d","k","head","rest","place","found"] ["frame","tails_by_part","d","k"] (g_ dA_):=⟨rfl,rfl,rfl,by decide +kernel,rfl,by decide +kernel,by decide +kernel⟩
theorem hu_{f:Addr}{fd:FuncData}(F:Fun K "number_at" "number_at" dA_ f fd)(T:Txt mg)(D6:Def P w K mg base 6 "how_many" ["frame"] bi_)(DB:Def P w K mg base 10 "count_below" ["frame","tails_by_part","d","n"] bj_)(DF:Def P w K mg base 4 "figure_and_rest" ["frame","tails_by_part","d","head","k"] ds_)
  (DN:Def P w K mg base 1 "number_of" ["base","figures"] cy_):FnOk P w K mg base CX0 11 f fd ["frame","tails_by_part","d","k"] cz_:=by
 refine F.ok eg_ (fun vs H Q E h=>?_) (fun cdv A outer s H vs Q E hr h=>?_)
 ·obtain⟨g,A,c,b,ps,ws,tl,tds,d,k,rfl,_⟩:=h;rfl
 ·obtain⟨g,A',c,b,ps,ws,tl,tds,d,n,rfl,G,htl,tdl,TA,k1,k2⟩:=h
  have nd:=eg_.nd
  have ok:=G.ok
  have b2:=ok.b2
  have hsum:=ok.sum
  have b0:0<b:=by lia
  refine⟨_,b_ (F_ (s_ qC_ (pv 3) (l_ DB hr (by rfl) (a_ (pv 0) (a_ (pv 1) (a_ (pv 2) (a_ (l_ D6 hr.mo (by rfl) (a_ (pv 0) c_)) c_))))) (nomark _)) (h_ (m_ bs_)) q_)
   (b_ (j_ (i:=4) nd rfl (Or.inl rfl) (A_ c_))
   (b_ (j_ (i:=5) nd rfl (Or.inl rfl) (pv 3))
   (b_ (V_ PassesOwn.never rfl (H_ (by rfl) T.range (a_ (lenS T.len (by rfl) (ixt (pv 0) e_)) c_)) (p_ (i:=6) nd rfl (Or.inl rfl))
    (b_ (j_ (i:=7) nd rfl (Or.inl rfl) (l_ DF hr.mo (by rfl) (a_ (pv 0) (a_ (pv 1) (a_ (pv 2) (a_ (pv 4) (a_ (pv 5) c_)))))))
    (b_ (j_ (i:=4) nd rfl (Or.inl rfl) (n_ fV_ (pv 4) (A_ (a_ (ixt (pv 7) e_) c_))))
    (h_ (j_ (i:=5) nd rfl (Or.inl rfl) (ixt (pv 7) e_))))))
   (h_ (m_ (l_ DN hr.mo (by rfl) (a_ (ixt (pv 0) e_) (a_ (pv 4) c_)))))))),?_⟩
  refine⟨_,rfl,_,rfl,_,rfl,_,rfl,_,rfl,g,A',c,b,ps,ws,rfl,G,fun H1 s1=>?_⟩
  refine⟨g,A',c,b,ps,ws,tl,tds,d,b ^ ps.sum,rfl,G.keep s1,s1 _ _ htl,tdl,TA.keep s1,Nat.le_refl _,fun H2 s2=>?_⟩
  have S2:=s1.trans s2
  refine⟨_,_,rfl,rfl,_,rfl,ite2 (fun hle=>?_) (fun hgt=>?_)⟩
  ·exact k1 H2 S2 (of_decide_eq_true hle)
  have hgt':¬ Mx.nrN b d ps ws (b ^ ps.sum)<=(n:Int):=fun z=>hgt (decide_eq_true z)
  refine⟨sz (by decide),fun h0 hh0=>?_⟩
  have s3:=f_ (o:=.lst []) hh0
  have u3:(upd H2 h0 (.lst [])) h0=some (.lst (natV (Ma.dws b 0 0 0))):=d_
  have S3:=S2.trans s3
  generalize upd H2 h0 (.lst [])=H3 at s3 u3 S3⊢
  have G3:=G.keep S3
  have hwl:=ok.wl
  refine⟨_,rfl,_,rfl,_,_,_,_,rfl,rfl,SqT.of G3.tp,rfl,c,_,rfl,.inl (SqL.of G3.hw),_,rfl,by rw[List.length_map];lia,by rw[List.length_map];lia,Z_ (n:=(((ws.map V.int).length:Nat):Int).toNat) (fun i σ H4=>∃(h:Addr) (a r:Nat) (v6 v7:Option V),σ=[some (.ref g),some (.ref tl),some (.int d),some (.int n),some (.ref h),some (.int r),v6,v7]/\Same H H4/\H4 h=some (.lst (natV (Ma.dws b a i i)))/\a<b ^ i/\Mx.nrN b d ps ws (a*b ^ (ps.sum-i))+r=n/\(n:Int)<Mx.nrN b d ps ws (a*b ^ (ps.sum-i)+b ^ (ps.sum-i)))
   ⟨h0,0,n,none,none,rfl,S3,u3,by simp,by rw[Nat.zero_mul];show(0:Int)+n=n;lia,by rw[Nat.zero_mul,Nat.zero_add,Nat.sub_zero];lia⟩ ?_ ?_⟩
  ·rintro i σ H4 hi ⟨h,a,r,v6,v7,rfl,s4,hh,ha,e1,e2⟩
   have hi':i<ps.sum:=by rw[List.length_map,hwl] at hi;lia
   refine⟨_,rfl,_,rfl,_,rfl,_,rfl,_,rfl,g,A',c,b,ps,ws,tl,h,tds,a,i,d,r,rfl,G.keep s4,s4 _ _ htl,tdl,TA.keep s4,hh,hi',ha,Mx.at_head rfl hi' e1 e2,fun t fg r' H5 s5 ht hfg h3 h4=>?_⟩
   refine⟨_,rfl,_,rfl,_,_,_,_,rfl,rfl,SqT.of ht,rfl,sz (by simp),fun q hq=>?_⟩
   have s6:=f_ (o:=.lst [V.int (fg:Int)]) hq
   have u6:(upd H5 q (.lst [V.int (fg:Int)])) q=_:=d_
   generalize upd H5 q (.lst [V.int (fg:Int)])=H6 at s6 u6⊢
   refine⟨h,q,_,_,rfl,rfl,s6 _ _ (s5 _ _ hh),u6,szl (by rw[natV,List.length_map,Ma.E_];lia),fun z hz=>?_⟩
   have s7:=f_ (o:=.lst (natV (Ma.dws b a i i)++[V.int (fg:Int)])) hz
   refine⟨_,rfl,_,_,_,_,rfl,rfl,SqT.of (s7 _ _ (s6 _ _ ht)),rfl,z,a*b+fg,r',_,_,rfl,s4.trans (s5.trans (s6.trans s7)),?_,?_,?_⟩
   ·rw[d_,Mg.lR_ b a fg i hfg]
    simp[natV]
   ·rw[Nat.pow_succ]
    have:(a+1)*b<=b ^ i*b:=Nat.mul_le_mul_right _ ha
    rw[Nat.add_mul,Nat.one_mul] at this
    lia
   ·exact Mx.at_step rfl hi' e1 h3 h4
  ·rintro σ H4 ⟨h,a,r,v6,v7,rfl,s4,hh,ha,e1,e2⟩
   have el:(((ws.map V.int).length:Nat):Int).toNat=ps.sum:=by rw[List.length_map,hwl];lia
   rw[el] at hh ha e1 e2
   rw[Nat.sub_self,Nat.pow_zero,Nat.mul_one] at e1 e2
   rw[Mx.nrN_succ] at e2
   have G4:=G.keep s4
   refine⟨_,rfl,_,_,_,_,rfl,rfl,SqT.of G4.tp,rfl,_,rfl,b,h,_,rfl,ok.b16,hh,?_⟩
   rw[Ma.pq_ b0 ha]
   have:=Mx.nrI_01 b d ps ws a
   exact k2 a H4 s4 ha (by lia) (by lia)
end
def spLaw(K:PySem.W.Frag):Sp:=fun vs H Q _=>∃(a:Addr) (ns:List Int),vs=[.ref a]/\SqL K H a (ns.map V.int)/\ns.length<=63/\∀H',Q (.bl true) H'
def frD(b:Nat)(ps:List Nat)(ws:List Int):PyData:=.tuple [.int b,.list ((ps.map fun(p:Nat)=>(p:Int)).map PyData.int),.list (ws.map PyData.int)]
theorem lJ_(b:Nat)(ps:List Nat)(ws:List Int):(frD b ps ws).canLay0=true:=by
 simp only[frD,PyData.canLay0,PyData.canLayAll0,lays,Bool.and_self]
theorem gn_(b:Nat)(ps:List Nat)(ws:List Int):(frD b ps ws).depth<=60:=by
 simp only[frD,PyData.depth,PyData.depthAll,depths]
 decide
theorem FrAt.dat{P:Program}{w:World}{H:Hp}{f a c:Addr}{b:Nat}{ps:List Nat}{ws:List Int}(G:FrAt H f a c b ps ws):DatV P w H (.ref f) (frD b ps ws) :=
 datT G.tp (.cons (datI _) (.cons (datL G.hp (by rw[hA_];exact datIs _)) (.cons (datL G.hw (datIs _)) .nil)))
end Hv
namespace Mx
open Me Mg Mu
theorem ia_{b:Nat}:∀ {gs:List (List (Int×Int))} {rows:List (List Int)},PySem.Paired (fun g row=>List.Perm g (waysW b row)) gs rows->∀F:List Int->Int,trG gs F=tr b rows F
 | _,_,.nil,_=>rfl
 | _,_,.cons r t,F=>by
  show tg _ _=tg _ _
  rw[tg_perm r]
  exact J_ fun x=>ia_ t _
theorem near_all{b:Nat}(hb:0<b){ps:List Nat}{ws:List Int}(lp:0<ps.length)(hw:ws.length=ps.sum){gs:List (List (Int×Int))}(h:PySem.Paired (fun g row=>List.Perm g (waysW b row)) gs (Ma.cuts ps ws))(ok:∀g∈gs,DOk g)(d:Nat):nearG gs d=nrN b d ps ws (b ^ ps.sum):=by
 have hl:gs.length=ps.length:=by rw[h.length,Ma.M_]
 rw[iK_ (by lia) ok,ia_ h,<-mp_ hb ps ws _ hw]
 rfl
theorem even_all{b:Nat}(hb:0<b){ps:List Nat}{ws:List Int}(lp:0<ps.length)(hw:ws.length=ps.sum){row:List Int}(h0:(Ma.cuts ps ws)[0]?=some row):tot (evenL b (Ma.cuts ps ws) (keys (waysW b row)))=nrN b 0 ps ws (b ^ ps.sum):=by
 rw[<-lq_ hb h0,<-nE_ hb hw lp]
 rfl
theorem ways_dok{b:Nat}(hb:1<=b)(hb2:b<=16){row:List Int}(hw:∀x∈row,-9<=x/\x<=9)(hl:row.length<=6){g:List (Int×Int)}(h:g.Perm (waysW b row)):DOk g:=by
 have okW:=cV_ (b:=b) (ws:=row) hw hb2
 have hk:(keys g).Perm (keys (waysW b row)):=h.map _
 refine⟨by rw[hk.length_eq];exact hF_ hb row,hk.nodup_iff.mpr okW.nd,fun k hk'=>?_,fun t=>?_⟩
 ·have:=okW.bd k (hk.mem_iff.mp hk')
  lia
 ·have e:=gj_ h okW.nd t
  have:=hS_ hb2 hl (ws:=row) t
  unfold gv
  rw[e]
  exact this
theorem nrI_le{b d:Nat}{ps:List Nat}{ws:List Int}{n:Nat}:nrI b d ps ws n=1↔Hv.spread (Hv.ay_ b n ps ws)<=d:=by
 have e:Hv.spread (Hv.ay_ b n ps ws)=sprd (sumsN b n ps ws):=rfl
 rw[e]
 unfold nrI
 constructor
 ·intro h
  by_cases z:sprd (sumsN b n ps ws)<=d
  ·exact z
  ·rw[if_neg z] at h;cases h
 ·intro h
  rw[if_pos h]
end Mx
namespace Hv
open PySem L2
def bO_:Sp:=fun vs H Q _=>∃d:Nat,vs=[.int d]/\Q .non H
def da_:Sp:=fun vs H Q _=>∃f A c b ps ws,∃d k:Nat,vs=[.ref f,.int d,.int k]/\FrAt H f A c b ps ws/\(∀H':Hp,Same H H'->Mx.nrN b d ps ws (b ^ ps.sum)<=k->Q .non H')/\∀(m:Nat) (H':Hp),Same H H'->m<b ^ ps.sum->Mx.nrI b d ps ws m=1->Mx.nrN b d ps ws m=k->Q (.int m) H'
def fD_:Sp:=fun vs H Q _=>∃f A c b ps ws,∃k:Nat,vs=[.ref f,.int k]/\FrAt H f A c b ps ws/\(∀H':Hp,Same H H'->Mx.nrN b 0 ps ws (b ^ ps.sum)<=k->Q .non H')/\∀(m:Nat) (H':Hp),Same H H'->m<b ^ ps.sum->Mx.nrI b 0 ps ws m=1->Mx.nrN b 0 ps ws m=k->Q (.int m) H'
section
variable{P:Program}{w:World}{K:PySem.W.Frag}{mg:Str->Option Value}{base:Heap}
theorem gX_:FnScope ["thing"] ["thing"] (g_ cA_):=⟨rfl,rfl,rfl,by decide +kernel,rfl,by decide +kernel,by decide +kernel⟩
theorem fZ_{f:Addr}{fd:FuncData}(F:Fun K "need_place" "need_place" cA_ f fd)(D1:Def P w K mg base 1 "is_whole" ["thing"] dm_):FnOk P w K mg base CX0 2 f fd ["thing"] bO_:=by
 refine F.ok gX_ (fun vs H Q E h=>?_) (fun cdv A outer s H vs Q E hr h=>?_)
 ·obtain⟨d,rfl,_⟩:=h;rfl
 ·obtain⟨d,rfl,k⟩:=h
  refine⟨_,h_ (F_ (PW.pt (eR_ (al_ (ag_ (l_ D1 hr (by rfl) (a_ (pv 0) c_)))) (cR_ (s_ lb_ (pv 0) e_ (nomark _))))) Q_ q_),?_⟩
  refine⟨_,rfl,.int d,rfl,.int _,_,rfl,iteF ⟨_,rfl,_,_,rfl,rfl,_,rfl,?_⟩⟩
  have e:decide ((d:Int)<0)=false:=decide_eq_false (by lia)
  rw[e]
  exact iteF k
theorem mD_:FnScope ["frame","d","k"] ["frame","d","k"] (g_ hc_):=⟨rfl,rfl,rfl,by decide +kernel,rfl,by decide +kernel,by decide +kernel⟩
theorem gb_{f:Addr}{fd:FuncData}(F:Fun K "near_by" "near_by" hc_ f fd)(D5:Def P w K mg base 5 "need_frame" ["thing"] K_)(DM:Def P w K mg base 2 "need_miss" ["thing"] bv_)(D7:Def P w K mg base 2 "need_place" ["thing"] bO_)
  (DT:Def P w K mg base 4 "tails_of_parts" ["frame"] dn_) (DA:Def P w K mg base 11 "number_at" ["frame","tails_by_part","d","k"] cz_):FnOk P w K mg base CX0 12 f fd ["frame","d","k"] da_:=by
 refine F.ok mD_ (fun vs H Q E h=>?_) (fun cdv A outer s H vs Q E hr h=>?_)
 ·obtain⟨g,A,c,b,ps,ws,d,n,rfl,_⟩:=h;rfl
 ·obtain⟨g,A',c,b,ps,ws,d,n,rfl,G,k1,k2⟩:=h
  refine⟨_,b_ (I_ (l_ D5 hr.mo (by rfl) (a_ (pv 0) c_)))
   (b_ (I_ (l_ DM hr.mo (by rfl) (a_ (pv 1) c_)))
   (b_ (I_ (l_ D7 hr.mo (by rfl) (a_ (pv 2) c_)))
   (h_ (m_ (l_ DA hr (by rfl) (a_ (pv 0) (a_ (l_ DT hr.mo (by rfl) (a_ (pv 0) c_)) (a_ (pv 1) (a_ (pv 2) c_))))))))),?_⟩
  refine⟨_,rfl,g,A',c,b,ps,ws,rfl,G,fun H1 s1=>⟨_,rfl,d,rfl,?_⟩⟩
  refine⟨_,rfl,n,rfl,?_⟩
  refine⟨_,rfl,_,rfl,g,A',c,b,ps,ws,rfl,G.keep s1,fun p tds H3 hp s3 h3 tdl TA=>?_⟩
  have S3:=s1.trans s3
  exact⟨_,rfl,_,rfl,g,A',c,b,ps,ws,p,tds,d,n,rfl,G.keep S3,h3,tdl,TA,fun H' s' h=>k1 H' (S3.trans s') h,fun m H' s' h1 h2 h3=>k2 m H' (S3.trans s') h1 h2 h3⟩
theorem kH_:FnScope ["frame","k"] ["frame","k"] (g_ eQ_):=⟨rfl,rfl,rfl,by decide +kernel,rfl,by decide +kernel,by decide +kernel⟩
theorem jz_{f:Addr}{fd:FuncData}(F:Fun K "even_by" "even_by" eQ_ f fd)(DB:Def P w K mg base 12 "near_by" ["frame","d","k"] da_):FnOk P w K mg base CX0 13 f fd ["frame","k"] fD_:=by
 refine F.ok kH_ (fun vs H Q E h=>?_) (fun cdv A outer s H vs Q E hr h=>?_)
 ·obtain⟨g,A,c,b,ps,ws,n,rfl,_⟩:=h;rfl
 ·obtain⟨g,A',c,b,ps,ws,n,rfl,G,k⟩:=h
  refine⟨_,h_ (m_ (l_ DB hr (by rfl) (a_ (pv 0) (a_ e_ (a_ (pv 1) c_))))),?_⟩
  exact⟨_,rfl,_,rfl,g,A',c,b,ps,ws,0,n,rfl,G,k⟩
end
def aU_:Sp:=fun vs H Q _=>∃f a c b ps ws,∃d:Nat,vs=[.ref f,.int d]/\FrAt H f a c b ps ws/\∀H',Same H H'->Q (.int (Mx.nrN b d ps ws (b ^ ps.sum))) H'
def af_:Sp:=fun vs H Q _=>∃f a c b ps ws,vs=[.ref f]/\FrAt H f a c b ps ws/\∀H',Same H H'->Q (.int (Mx.nrN b 0 ps ws (b ^ ps.sum))) H'
theorem dZ_{H:Hp}{b:Nat}:∀ {qs:List Addr} {rows:List (List Int)},eu_ H b qs rows->∃gs:List (List (Int×Int)),WaysG H qs gs/\Paired (fun g row=>List.Perm g (Me.waysW b row)) gs rows
 | _,_,.nil=>⟨[],.nil,.nil⟩
 | _,_,.cons r t=>by
  obtain⟨g,e,p⟩:=r
  obtain⟨gs,h1,h2⟩:=dZ_ t
  exact⟨g::gs,.cons e h1,.cons p h2⟩
theorem fT_{α β:Type}{F:α->β->Prop}:∀ {xs:List α} {ys:List β},Paired F xs ys->∀x∈xs,∃y,y∈ys/\F x y
 | _,_,.nil,_,h=>by simp at h
 | _,_,.cons r t,x,h=>by
  rcases List.mem_cons.mp h with rfl | h
  ·exact⟨_,by simp,r⟩
  ·obtain⟨y,hy,e⟩:=fT_ t x h
   exact⟨y,by simp[hy],e⟩
section
variable{P:Program}{w:World}{K:PySem.W.Frag}{mg:Str->Option Value}{base:Heap}
theorem gZ_:FnScope ["frame","d"] ["frame","d"] (g_ cF_):=⟨rfl,rfl,rfl,by decide +kernel,rfl,by decide +kernel,by decide +kernel⟩
theorem ge_{f:Addr}{fd:FuncData}(F:Fun K "count_near" "count_near" cF_ f fd)(D5:Def P w K mg base 5 "need_frame" ["thing"] K_)(DM:Def P w K mg base 2 "need_miss" ["thing"] bv_)(DW:Def P w K mg base 3 "ways_of_parts" ["frame"] aT_)
  (DS:Def P w K mg base 2 "count_spread_within" ["ways_by_part","width"] cZ_):FnOk P w K mg base CX0 6 f fd ["frame","d"] aU_:=by
 refine F.ok gZ_ (fun vs H Q E h=>?_) (fun cdv A outer s H vs Q E hr h=>?_)
 ·obtain⟨g,a,c,b,ps,ws,d,rfl,_⟩:=h;rfl
 ·obtain⟨g,a,c,b,ps,ws,d,rfl,G,k⟩:=h
  have ok:=G.ok
  have b0:0<b:=by have:=ok.b2;lia
  have l2:=ok.l2
  have l4:=ok.l4
  refine⟨_,b_ (I_ (l_ D5 hr (by rfl) (a_ (pv 0) c_)))
   (b_ (I_ (l_ DM hr.mo (by rfl) (a_ (pv 1) c_)))
   (h_ (m_ (l_ DS hr.mo (by rfl) (a_ (l_ DW hr.mo (by rfl) (a_ (pv 0) c_)) (a_ (pv 1) c_)))))),?_⟩
  refine⟨_,rfl,g,a,c,b,ps,ws,rfl,G,fun H1 s1=>⟨_,rfl,d,rfl,?_⟩⟩
  refine⟨_,rfl,g,a,c,b,ps,ws,rfl,G.keep s1,fun p qs H2 s2 hp h2 wa=>?_⟩
  obtain⟨gs,wg,pg⟩:=dZ_ wa
  have gl:gs.length=ps.length:=by rw[pg.length,Ma.M_]
  have dok:∀g∈gs,Me.DOk g:=fun g hg=>by
   obtain⟨row,hrow,perm⟩:=fT_ pg g hg
   exact Mx.ways_dok b0 ok.b16 (fun y hy=>ok.wr y (Ma.bF_ hrow y hy)) (Ma.aq_ (fun p hp=>(ok.pr p hp).2) hrow) perm
  refine⟨_,rfl,p,qs,gs,d,rfl,h2,wg,by lia,by lia,dok,fun H' s'=>?_⟩
  rw[Mx.near_all b0 (by lia) ok.wl pg dok]
  exact k H' (s1.trans (s2.trans s'))
theorem ha_:FnScope ["frame"] ["frame"] (g_ cG_):=⟨rfl,rfl,rfl,by decide +kernel,rfl,by decide +kernel,by decide +kernel⟩
theorem gf_{f:Addr}{fd:FuncData}(F:Fun K "count_even" "count_even" cG_ f fd)(T:Txt mg)(DE:Def P w K mg base 6 "even_by_sums" ["frame"] eI_):FnOk P w K mg base CX0 7 f fd ["frame"] af_:=by
 refine F.ok ha_ (fun vs H Q E h=>?_) (fun cdv A outer s H vs Q E hr h=>?_)
 ·obtain⟨g,a,c,b,ps,ws,rfl,_⟩:=h;rfl
 ·obtain⟨g,a,c,b,ps,ws,rfl,G,k⟩:=h
  have ok:=G.ok
  have b0:0<b:=by have:=ok.b2;lia
  have l2:=ok.l2
  refine⟨_,h_ (m_ (mO_ rfl T.sum (by rfl) (l_ DE hr (by rfl) (a_ (pv 0) c_)))),?_⟩
  refine⟨_,rfl,g,a,c,b,ps,ws,rfl,G,fun p g' H1 hp s1 hp1 ⟨row,hrow,perm⟩=>⟨p,_,g'.map (·.2),rfl,hp1,(by simp[intsD]),?_⟩⟩
  have e:=Me.mz_ perm
  show Q (.int (Me.tot g')) H1
  rw[e,Mx.even_all b0 (by lia) ok.wl hrow]
  exact k H1 s1
end
end Hv
namespace Mx
open Me Mg Mu
def Mk(e:Nat->Int):Prop:=∀i,e i=0\/e i=1
end Mx
namespace Mx
open Me Mg Mu
end Mx
namespace Ma
theorem ny_(b L:Nat):dws b 0 L L=List.replicate L 0:=by
 apply List.ext_getElem
 ·simp[dws]
 ·intro i h1 h2
  simp[dws]
theorem hR_:∀(L:Nat) (ws:List Int),List.zipWith (fun(d:Nat) (x:Int)=>(d:Int)*x) (List.replicate L 0) ws=List.replicate (min L ws.length) 0
 | 0,ws=>by simp
 | L+1,[]=>by simp
 | L+1,x::r=>by
  rw[List.replicate_succ,List.zipWith_cons_cons,hR_ L r,List.length_cons,show min (L+1) (r.length+1)=min L r.length+1 by lia,List.replicate_succ]
  simp
theorem jn_(ps:List Nat):∀k:Nat,psums ps (List.replicate k 0)=List.replicate ps.length 0:=by
 induction ps with
 | nil=>intro k;rfl
 | cons p ps ih =>
  intro k
  have:=ih (k-p)
  unfold psums at this⊢
  simp only[cuts,List.map_cons,List.take_replicate,List.drop_replicate,List.length_cons,List.replicate_succ]
  rw[this]
  simp
theorem mf_{n:Nat}{x:Int}(h:0<n):maxL (List.replicate n x)=x/\minL (List.replicate n x)=x:=by
 have hm:x∈List.replicate n x:=List.mem_replicate.mpr ⟨by lia,rfl⟩
 exact⟨(dG_ hm fun y hy=>by rw[List.eq_of_mem_replicate hy];exact Int.le_refl _).symm,(dF_ hm fun y hy=>by rw[List.eq_of_mem_replicate hy];exact Int.le_refl _).symm⟩
end Ma
namespace Mx
open Me Mg Mu
variable{b d e:Nat}{ps:List Nat}{ws:List Int}{m n:Nat}
theorem nrN_le(h:m<=n):nrN b d ps ws m<=nrN b d ps ws n:=by
 have:=iG_ b d ps ws m (n-m)
 rw[show m+(n-m)=n by lia] at this
 exact this
theorem nr_uniq(h1:nrI b d ps ws m=1)(h2:nrI b d ps ws n=1)(h:nrN b d ps ws m=nrN b d ps ws n):m=n:=by
 have e1:=nrN_succ b d ps ws m
 have e2:=nrN_succ b d ps ws n
 rcases Nat.lt_trichotomy m n with z | z | z
 ·have:=nrN_le (b:=b) (d:=d) (ps:=ps) (ws:=ws) (show m+1<=n by lia)
  lia
 ·exact z
 ·have:=nrN_le (b:=b) (d:=d) (ps:=ps) (ws:=ws) (show n+1<=m by lia)
  lia
theorem wts_135{L:Nat}(hb0:0<b)(hb:b<=16)(hw:∀x∈ws,-9<=x/\x<=9):∀y∈Ma.wts b n L ws,-135<=y/\y<=135:=by
 intro y hy
 unfold Ma.wts at hy
 obtain⟨i,hi⟩:=List.getElem?_of_mem hy
 rw[List.getElem?_zipWith] at hi
 cases e1:(Ma.dws b n L L)[i]? with
 | none=>rw[e1] at hi;cases hi
 | some g =>
  cases e2:ws[i]? with
  | none=>rw[e1,e2] at hi;cases hi
  | some x =>
   rw[e1,e2] at hi
   have hg:=Ma.lS_ hb0 (List.mem_of_getElem? e1)
   have hx:=hw x (List.mem_of_getElem? e2)
   have:=gN_ (m:=0) (x:=0) (d:=g) (b:=b) ⟨by decide,by decide⟩ hx hb hg
   have e3:(g:Int)*x=y:=Option.some.inj hi
   lia
theorem sum_135:∀ {l:List Int},(∀y∈l,-135<=y/\y<=135)->-(135*(l.length:Int))<=l.sum/\l.sum<=135*(l.length:Int)
 | [],_=>⟨by decide,by decide⟩
 | x::l,h=>by
  have h1:=h x (by simp)
  have h2:=sum_135 (l:=l) fun y hy=>h y (by simp[hy])
  rw[List.sum_cons,List.length_cons]
  push_cast
  lia
end Mx
namespace Hv
open PySem L2
theorem ie_{b n:Nat}{ps:List Nat}{ws:List Int}(ok:FrOk b ps ws):∀x∈ay_ b n ps ws,-810<=x/\x<=810:=fun x hx=>by
 obtain⟨row,hrow,rfl⟩:=List.mem_map.mp hx
 have h1:=Ma.aq_ (fun p hp=>(ok.pr p hp).2) hrow
 have h2:=Mx.sum_135 (l:=row) fun y hy=>Mx.wts_135 (by have:=ok.b2;lia) ok.b16 ok.wr y (Ma.bF_ hrow y hy)
 lia
theorem kt_{b n:Nat}{ps:List Nat}{ws:List Int}(ok:FrOk b ps ws):0<=spread (ay_ b n ps ws)/\spread (ay_ b n ps ws)<=1620:=by
 have hl:=ez_ (n:=n) ok
 obtain⟨a1,a2⟩:=Ma.y_ _ hl
 obtain⟨b1,b2⟩:=Ma.w_ _ hl
 have c1:=ie_ ok _ a1
 have c2:=ie_ ok _ b1
 have:=a2 _ b1
 unfold spread
 lia
theorem lM_{b:Nat}{ps:List Nat}{ws:List Int}(ok:FrOk b ps ws):spread (ay_ b 0 ps ws)=0:=by
 have e:ay_ b 0 ps ws=List.replicate ps.length 0:=by
  show Ma.psums ps (Ma.wts b 0 ps.sum ws)=_
  unfold Ma.wts
  rw[Ma.ny_,Ma.hR_,Ma.jn_]
 have l2:=ok.l2
 have z:=Ma.mf_ (n:=ps.length) (x:=0) (by lia)
 unfold spread
 rw[e,z.1,z.2]
 rfl
end Hv
namespace Mx
open Me Mg Mu
variable{b d e:Nat}{ps:List Nat}{ws:List Int}{m n:Nat}
theorem nr_zero(ok:Hv.FrOk b ps ws):nrI b d ps ws 0=1:=by
 rw[nrI_le,Hv.lM_ ok]
 lia
theorem nrN_pos(ok:Hv.FrOk b ps ws)(h:0<n):1<=nrN b d ps ws n:=by
 have h1:=nrN_le (b:=b) (d:=d) (ps:=ps) (ws:=ws) (show 0+1<=n by lia)
 rw[nrN_succ,nr_zero ok] at h1
 have:nrN b d ps ws 0=0:=rfl
 lia
end Mx
namespace Hv
open PySem L2
theorem FrAt.kps{H H':Hp}{f a c st:Addr}{b:Nat}{ps:List Nat}{ws:List Int}(G:FrAt H f a c b ps ws)(S:Store H st)(ha:a≠st)(hc:c≠st)(k:Kp [st] H H'):FrAt H' f a c b ps ws:=by
 refine⟨k _ _ G.tp (fun z=>?_),k _ _ G.hp (by simpa using ha),k _ _ G.hw (by simpa using hc),G.ok⟩
 have z':f=st:=by simpa using z
 obtain⟨x,y,w,e⟩:=S
 have:=G.tp
 rw[z',e] at this
 cases this
theorem nW_{b:Nat}{ps:List Nat}{ws:List Int}(ok:FrOk b ps ws):0<b ^ ps.sum:=Nat.pow_pos (by have:=ok.b2;lia)
theorem bV_{i j:Int}(h:i=j):(!decide (V.int i=V.int j))=false:=by rw[h];simp
section
variable{H:Hp}{Q:VK}{E:XK}{f a c:Addr}{b d n k:Nat}{ps:List Nat}{ws:List Int}
def ByV(b d:Nat)(ps:List Nat)(ws:List Int)(k:Nat)(v:V):Prop:=(v=.non/\Mx.nrN b d ps ws (b ^ ps.sum)<=k)\/∃m:Nat,v=.int m/\m<b ^ ps.sum/\Mx.nrI b d ps ws m=1/\Mx.nrN b d ps ws m=k
end
def spByV:Sp:=fun vs H Q _=>∃(f a c:Addr) (b:Nat) (ps:List Nat) (ws:List Int) (d k:Nat),vs=[.ref f,.int d,.int k]/\FrAt H f a c b ps ws/\∀(v:V) (H':Hp),Same H H'->ByV b d ps ws k v->Q v H'
def eJ_:Sp:=fun vs H Q _=>∃(f a c:Addr) (b:Nat) (ps:List Nat) (ws:List Int) (k:Nat),vs=[.ref f,.int k]/\FrAt H f a c b ps ws/\∀(v:V) (H':Hp),Same H H'->ByV b 0 ps ws k v->Q v H'
theorem rp_(vs:List V)(H:Hp)(Q:VK)(E:XK)(h:spByV vs H Q E):da_ vs H Q E:=by
 obtain⟨f,a,c,b,ps,ws,d,k,rfl,G,h⟩:=h
 exact⟨f,a,c,b,ps,ws,d,k,rfl,G,fun H' s h0=>h .non H' s (.inl ⟨rfl,h0⟩),fun m H' s h1 h2 h3=>h (.int m) H' s (.inr ⟨m,rfl,h1,h2,h3⟩)⟩
theorem nu_(vs:List V)(H:Hp)(Q:VK)(E:XK)(h:eJ_ vs H Q E):fD_ vs H Q E:=by
 obtain⟨f,a,c,b,ps,ws,k,rfl,G,h⟩:=h
 exact⟨f,a,c,b,ps,ws,k,rfl,G,fun H' s h0=>h .non H' s (.inl ⟨rfl,h0⟩),fun m H' s h1 h2 h3=>h (.int m) H' s (.inr ⟨m,rfl,h1,h2,h3⟩)⟩
section
variable{H:Hp}{Q:VK}{E:XK}{f a c:Addr}{b d n k:Nat}{ps:List Nat}{ws:List Int}
theorem ByV.far(h:(k:Int)<Mx.nrN b d ps ws (b ^ ps.sum)){v:V}(q:ByV b d ps ws k v):∃m:Nat,v=.int m/\m<b ^ ps.sum/\Mx.nrI b d ps ws m=1/\Mx.nrN b d ps ws m=k:=by
 rcases q with⟨_,z⟩ | q
 ·lia
 ·exact q
theorem ByV.none(h:Mx.nrN b d ps ws (b ^ ps.sum)<=(k:Int)){v:V}(q:ByV b d ps ws k v):v=.non:=by
 rcases q with⟨z,_⟩ | ⟨m,_,h1,h2,h3⟩
 ·exact z
 ·exfalso
  have e:=Mx.nrN_succ b d ps ws m
  have:=Mx.nrN_le (b:=b) (d:=d) (ps:=ps) (ws:=ws) (show m+1<=b ^ ps.sum by lia)
  lia
theorem ByV.self(hn:n<b ^ ps.sum)(hi:Mx.nrI b d ps ws n=1)(hk:Mx.nrN b d ps ws n=k){v:V}(q:ByV b d ps ws k v):v=.int n:=by
 have e:=Mx.nrN_succ b d ps ws n
 have le:=Mx.nrN_le (b:=b) (d:=d) (ps:=ps) (ws:=ws) (show n+1<=b ^ ps.sum by lia)
 obtain⟨m,rfl,h1,h2,h3⟩:=q.far (by lia)
 rw[Mx.nr_uniq h2 hi (by lia)]
theorem ByV.same{v u:V}(q:ByV b d ps ws k v)(r:ByV b d ps ws k u):v=u:=by
 rcases q with⟨z,y⟩ | ⟨m,rfl,h1,h2,h3⟩
 ·rw[z,r.none y]
 ·exact(r.self h1 h2 h3).symm
end
theorem aV_{H H2 H3:Hp}{q:Addr}(s:Same H H2)(h:H q=none)(k:Kp [q] H2 H3):Same H H3:=fun b o e=>k b o (s b o e) (fun z=>by
 have z':b=q:=by simpa using z
 rw[z',h] at e;cases e)
end Hv
namespace L2
open PySem PySem.Spec PyProof.Rows
mutual
inductive Tree(H:Hp):V->PyData->Prop
 | non:Tree H .non .none
 | bl (b:Bool):Tree H (.bl b) (.bool b)
 | int (i:Int):Tree H (.int i) (.int i)
 | str (x:Str):Tree H (.str x) (.str x)
 | lst {a:Addr} {xs:List V} {ds:List PyData} (e:H a=some (.lst xs)) (r:Trees H xs ds):Tree H (.ref a) (.list ds)
 | tup {a:Addr} {xs:List V} {ds:List PyData} (e:H a=some (.tup xs)) (r:Trees H xs ds):Tree H (.ref a) (.tuple ds)
 | emp {a:Addr} (e:H a=some (.dK [])):Tree H (.ref a) (.dict [])
inductive Trees(H:Hp):List V->List PyData->Prop
 | nil:Trees H [] []
 | cons {x:V} {xs:List V} {d:PyData} {ds:List PyData} (h:Tree H x d) (t:Trees H xs ds):Trees H (x::xs) (d::ds)
end
mutual
theorem Tree.keep{H H':Hp}(s:Same H H'):∀ {x:V} {d:PyData},Tree H x d->Tree H' x d
 | _,_,.non=>.non
 | _,_,.bl b=>.bl b
 | _,_,.int i=>.int i
 | _,_,.str x=>.str x
 | _,_,.lst e r=>.lst (s _ _ e) (Trees.keep s r)
 | _,_,.tup e r=>.tup (s _ _ e) (Trees.keep s r)
 | _,_,.emp e=>.emp (s _ _ e)
theorem Trees.keep{H H':Hp}(s:Same H H'):∀ {xs:List V} {ds:List PyData},Trees H xs ds->Trees H' xs ds
 | _,_,.nil=>.nil
 | _,_,.cons h t=>.cons (Tree.keep s h) (Trees.keep s t)
end
section
variable{P:Program}{w:World}{H:Hp}{h:Heap}
theorem dO_{a:Addr}(ok:HOk P w H h)(e:H a=some (.dK [])):Reads h (.ref a) (.dict []) [a]:=by
 obtain⟨_,_,vs,r,hd⟩:=jR_ ok e
 cases r
 obtain⟨o,es,ep,ho,hx,hdat,_,hp,_⟩:=hd
 have e0:es.toList=[]:=by
  generalize es.toList=l at hp
  cases hp
  rfl
 exact Reads.dict (kvs:=[]) (as:=[]) (bs:=[]) ho hx.1 hdat (by rw[e0];exact .nil) (by rw[e0];exact .nil)
mutual
theorem Tree.reads(ok:HOk P w H h):∀ {x:V} {d:PyData},Tree H x d->∀v,RelV x v->∃as,Reads h v d as/\∀b∈as,H b≠none
 | _,_,.non,v,r=>by cases r;exact⟨_,.none,by simp⟩
 | _,_,.bl b,v,r=>by cases r;exact⟨_,.bool b,by simp⟩
 | _,_,.int i,v,r=>by obtain⟨t,rfl⟩:=r;exact⟨_,.int i t,by simp⟩
 | _,_,.str x,v,r=>by obtain⟨t,rfl⟩:=r;exact⟨_,.str x t,by simp⟩
 | _,_,.lst (a:=a) e rs,v,r=>by
  cases r
  obtain⟨_,its,n,rv,e1⟩:=ok a _ e
  obtain⟨as,h1,h2⟩:=Trees.reads ok rs its rv
  refine⟨_,.list e1 rfl rfl (by simpa using h1),fun b hb=>?_⟩
  rcases List.mem_cons.mp hb with rfl | hb
  ·rw[e];simp
  ·exact h2 b hb
 | _,_,.tup (a:=a) e rs,v,r=>by
  cases r
  obtain⟨_,its,rv,o,e1,c,n,d⟩:=ok a _ e
  obtain⟨as,h1,h2⟩:=Trees.reads ok rs its rv
  exact⟨_,.tuple e1 c d (by simpa using h1),h2⟩
 | _,_,.emp (a:=a) e,v,r=>by
  cases r
  refine⟨_,dO_ ok e,fun b hb=>?_⟩
  have z:b=a:=by simpa using hb
  rw[z,e];simp
theorem Trees.reads(ok:HOk P w H h):∀ {xs:List V} {ds:List PyData},Trees H xs ds->∀its,Vals xs its->∃as,ReadsAll h its ds as/\∀b∈as,H b≠none
 | _,_,.nil,its,r=>by cases r;exact⟨_,.nil,by simp⟩
 | _,_,.cons q t,its,r=>by
  cases r with
  | cons r1 r2 =>
   obtain⟨as,h1,h2⟩:=Tree.reads ok q _ r1
   obtain⟨bs,h3,h4⟩:=Trees.reads ok t _ r2
   refine⟨_,.cons h1 h3,fun b hb=>?_⟩
   rcases List.mem_append.mp hb with hb | hb
   ·exact h2 b hb
   ·exact h4 b hb
end
end
section
variable{X:Cx}
end
section
variable{X:Cx}{e:Expr}{te:TE}
end
section
variable{P:Program}{w:World}{H:Hp}{h:Heap}
mutual
theorem Tree.shows(ok:HOk P w H h):∀ {x:V} {d:PyData},Tree H x d->∀v,RelV x v->d.showable=true->d.shown.length<=sizeLine->∃bs,ReadAtMost h d.depth bs/\ReprK P w bs h d.depth v d.shown
 | _,_,.non,v,r,_,_=>by
  cases r
  refine⟨[],(fun _ z=>nomatch z),?_⟩
  simp only[PyData.shown]
  exact ReprK.of_is ReprIs.none _ _ _
 | _,_,.bl b,v,r,_,_=>by
  cases r
  refine⟨[],(fun _ z=>nomatch z),?_⟩
  simp only[PyData.shown]
  exact ReprK.of_is (ReprIs.bool b) _ _ _
 | _,_,.int i,v,r,hs,_=>by
  obtain⟨t,rfl⟩:=r
  refine⟨[],(fun _ z=>nomatch z),?_⟩
  simp only[PyData.shown]
  exact ReprK.of_is (ReprIs.int t (by simpa [PyData.showable] using hs)) _ _ _
 | _,_,.str x,v,r,_,hz=>by
  obtain⟨t,rfl⟩:=r
  refine⟨[],(fun _ z=>nomatch z),?_⟩
  simp only[PyData.shown] at hz⊢
  exact ReprK.of_is (ReprIs.str x t hz) _ _ _
 | _,_,.lst (a:=a) (ds:=ds) e rs,v,r,hs,hz=>by
  cases r
  have tr:Tree H (.ref a) (.list ds):=.lst e rs
  obtain⟨as,rd,_⟩:=Tree.reads ok tr (.ref a) rfl
  obtain⟨_,its,n,rv,e1⟩:=ok a _ e
  simp only[PyData.shown] at hz
  obtain⟨bs,hb,hk⟩:=Trees.shows ok rs its rv (by simpa [PyData.showable] using hs) (fun t ht=>Nat.le_trans (listText_mem_le ht) hz)
  have far:a∉bs:=not_mem_of_deeper rd (by simp only[PyData.depth];lia) hb
  refine⟨a::bs,ReadAtMost.cons rd (by simp only[PyData.depth];lia) hb,?_⟩
  simp only[PyData.depth,PyData.shown]
  cases its with
  | nil =>
   cases rv
   cases rs
   simp only[PyData.shownAll,listText_nil]
   exact ReprK.listEmpty e1 rfl rfl
  | cons u l=>exact ReprK.list e1 rfl rfl far (by simpa using hk.length_eq) (fun i y z=>hk.item i y (by simpa using z))
 | _,_,.tup (a:=a) (ds:=ds) e rs,v,r,hs,hz=>by
  cases r
  have tr:Tree H (.ref a) (.tuple ds):=.tup e rs
  obtain⟨as,rd,_⟩:=Tree.reads ok tr (.ref a) rfl
  obtain⟨_,its,rv,o,e1,c,n,d⟩:=ok a _ e
  simp only[PyData.shown] at hz
  obtain⟨bs,hb,hk⟩:=Trees.shows ok rs its rv (by simpa [PyData.showable] using hs) (fun t ht=>Nat.le_trans (tupleText_mem_le ht) hz)
  have far:a∉bs:=not_mem_of_deeper rd (by simp only[PyData.depth];lia) hb
  refine⟨a::bs,ReadAtMost.cons rd (by simp only[PyData.depth];lia) hb,?_⟩
  simp only[PyData.depth,PyData.shown]
  exact ReprK.tuple e1 c d far (by simpa using hk)
 | _,_,.emp (a:=a) e,v,r,_,_=>by
  cases r
  have rd:=dO_ ok e
  obtain⟨_,hS,vs,rk,hd⟩:=jR_ ok e
  cases rk
  obtain⟨o,es,ep,ho,hx,hdat,_,hp,_⟩:=hd
  have e0:es.toList=[]:=by
   generalize es.toList=l at hp
   cases hp
   rfl
  refine⟨[a],ReadAtMost.cons (n:=PyData.depthKv []) rd (by simp only[PyData.depth];lia) (fun _ z=>nomatch z),?_⟩
  simp only[PyData.depth,PyData.shown]
  have nil:ReprAllK P w [] h (PyData.depthKv []) [] (PyData.shownAll []):=by simp only[PyData.shownAll];exact .nil
  refine ReprK.dict ho hx.1 hdat hS (by simp) ?_
  have z:=ReprEntriesK.of_two (prog:=P) (w:=w) (as:=[]) (h₀:=h) (d:=PyData.depthKv []) es.toList [] [] (by rw[e0];exact nil) (by rw[e0];exact nil)
  simpa [PyData.shownKv] using z
theorem Trees.shows(ok:HOk P w H h):∀ {xs:List V} {ds:List PyData},Trees H xs ds->∀its,Vals xs its->PyData.showableAll ds=true->(∀t∈PyData.shownAll ds,t.length<=sizeLine)->
  ∃bs,ReadAtMost h (PyData.depthAll ds) bs/\ReprAllK P w bs h (PyData.depthAll ds) its (PyData.shownAll ds)
 | _,_,.nil,its,r,_,_=>by
  cases r
  exact⟨[],(fun _ z=>nomatch z),by simp only[PyData.shownAll];exact .nil⟩
 | _,_,.cons q t,its,r,hs,hz=>by
  cases r with
  | cons r1 r2 =>
   simp only[PyData.showableAll,Bool.and_eq_true] at hs
   simp only[PyData.shownAll,List.mem_cons,forall_eq_or_imp] at hz
   obtain⟨b1,m1,k1⟩:=Tree.shows ok q _ r1 hs.1 hz.1
   obtain⟨b2,m2,k2⟩:=Trees.shows ok t _ r2 hs.2 hz.2
   simp only[PyData.depthAll,PyData.shownAll]
   refine⟨b1++b2,(m1.mono (Nat.le_max_left _ _)).append (m2.mono (Nat.le_max_right _ _)),?_⟩
   exact .cons ((k1.more fun b hb=>List.mem_append_left _ hb).level_le (Nat.le_max_left _ _)) (k2.more_le (fun b hb=>List.mem_append_right _ hb) (Nat.le_max_right _ _))
end
end
section
variable{X:Cx}
end
def Off(D:List Addr)(H:Hp):Hp:=fun a=>if a∈D then none else H a
theorem em_{D:List Addr}{H:Hp}{a:Addr}{o:HO}(h:H a=some o)(n:a∉D):Off D H a=some o:=by unfold Off;rw[if_neg n];exact h
theorem fd_{D:List Addr}{H:Hp}:Same (Off D H) H:=fun a o h=>by
 unfold Off at h
 split at h
 ·cases h
 ·exact h
theorem qG_{D:List Addr}{H H':Hp}(k:Hv.Kp D H H'):Same (Off D H) (Off D H'):=fun a o h=>by
 unfold Off at h⊢
 split at h
 ·cases h
 ·rename_i n
  rw[if_neg n]
  exact k a o h n
end L2
namespace Hv
open PySem L2
structure PP(D:List Addr) where
 holds:Hp->V->Prop
 per:∀H H' v,Kp D H H'->holds H v->holds H' v
abbrev Le{D:List Addr}(P P':PP D):Prop:=∀H v,P.holds H v->P'.holds H v
def inP(D:List Addr)(lo hi:Int):PP D:=⟨fun _ v=>∃i,v=.int i/\lo<=i/\i<=hi,fun _ _ _ _ h=>h⟩
def rfP(D:List Addr)(a:Addr):PP D:=⟨fun _ v=>v=.ref a,fun _ _ _ _ h=>h⟩
def lsP{D:List Addr}(lo hi:Nat)(It:PP D):PP D:=⟨fun H v=>∃a xs,v=.ref a/\H a=some (.lst xs)/\a∉D/\lo<=xs.length/\xs.length<=hi/\∀x∈xs,It.holds H x,
 fun _ _ _ k ⟨a,xs,e,h,n,l1,l2,it⟩=>⟨a,xs,e,k _ _ h n,n,l1,l2,fun x hx=>It.per _ _ _ k (it x hx)⟩⟩
def Cp{D:List Addr}(ps:List (Option (PP D)))(σ:St)(H:Hp):Prop:=Paired (fun(q:Option (PP D)) (o:Option V)=>∀P,q=some P->∃v,o=some v/\P.holds H v) ps σ
theorem Cp.per{D:List Addr}{H H':Hp}(k:Kp D H H'):∀ {ps:List (Option (PP D))} {σ:St},Cp ps σ H->Cp ps σ H'
 | _,_,.nil=>.nil
 | _,_,.cons h t=>.cons (fun P e=>let ⟨v,a,b⟩:=h P e;⟨v,a,P.per _ _ _ k b⟩) (Cp.per k t)
theorem Cp.get{D:List Addr}{H:Hp}:∀ {ps:List (Option (PP D))} {σ:St} {i:Nat} {P:PP D},Cp ps σ H->ps[i]?=some (some P)->∃v,σ[i]?=some (some v)/\P.holds H v
 | _,_,_,_,.nil,e=>by simp at e
 | _,_,0,P,.cons h _,e=>by
  simp at e
  obtain⟨v,a,b⟩:=h P e
  exact⟨v,by simp[a],b⟩
 | _,_,i+1,P,.cons _ t,e=>by
  obtain⟨v,a,b⟩:=Cp.get (i:=i) (P:=P) t (by simpa using e)
  exact⟨v,by simpa using a,b⟩
section
variable{X:Cx}{d:Addr}{ps:List (Option (PP [d]))}
def tT(d:Addr)(ps:List (Option (PP [d])))(P:PP [d]):TE:=fun σ H Q=>Cp ps σ H/\Store H d/\∀v H',Store H' d->Kp [d] H H'->P.holds H' v->Q v H'
def tTs(d:Addr)(ps:List (Option (PP [d])))(m:Nat)(It:PP [d]):TA:=fun σ H Q=>Cp ps σ H/\Store H d/\∀vs H',Store H' d->Kp [d] H H'->vs.length=m->(∀v∈vs,It.holds H' v)->Q vs H'
abbrev ET(X:Cx)(d:Addr)(ps:List (Option (PP [d])))(e:Expr)(P:PP [d]):Prop:=PE X e (tT d ps P)
theorem weak{e:Expr}{t t':TE}(h:PE X e t)(w:∀ σ H Q,t' σ H Q->t σ H Q):PE X e t':=fun pins s σ H Q I q=>h pins s σ H Q I (w σ H Q q)
theorem weakT{e:Expr}{t:TE}{P:PP [d]}(h:PE X e t)(w:∀ σ H Q,Cp ps σ H->Store H d->(∀v H',Store H' d->Kp [d] H H'->P.holds H' v->Q v H')->t σ H Q):ET X d ps e P:=fun pins s σ H Q I q=>h pins s σ H Q I (w σ H Q q.1 q.2.1 q.2.2)
theorem nH_{es:List Expr}{t:TA}{m:Nat}{It:PP [d]}(h:PA X es t)(w:∀ σ H Q,Cp ps σ H->Store H d->(∀vs H',Store H' d->Kp [d] H H'->vs.length=m->(∀v∈vs,It.holds H' v)->Q vs H')->t σ H Q):PA X es (tTs d ps m It):=fun pos pins s σ H Q I q=>h pos pins s σ H Q I (w σ H Q q.1 q.2.1 q.2.2)
variable{e a b:Expr}{es:List Expr}{pos:Pos}{P P':PP [d]}
theorem e_up(h:ET X d ps e P)(l:Le P P'):ET X d ps e P':=weakT h fun _ _ _ c k q=>⟨c,k,fun v H' D' k' hv=>q v H' D' k' (l _ _ hv)⟩
theorem nx_{v:V}(h:PE X e (tC v))(hv:∀H,P.holds H v):ET X d ps e P:=weakT h fun _ H _ c k q=>q v H k Kp.refl (hv H)
theorem cJ_(i:Nat)(h:PE X e (tVar i))(hi:ps[i]?=some (some P):=by rfl):ET X d ps e P:=weakT h fun σ H Q c k q=>by
 obtain⟨v,e1,e2⟩:=c.get hi
 exact⟨v,e1,q v H k Kp.refl e2⟩
def lo_:Expr->Bool
 | .Starred ..=>false
 | _=>true
theorem ks_{e:Expr}{es:List Expr}{env:Env}(h:lo_ e=true):starEach (e::es) env=(false,eval e env)::starEach es env:=by
 cases e <;> first | rfl | (simp[lo_] at h)
theorem pU_{It:PP [d]}:PA X [] (tTs d ps 0 It):=nH_ c_ fun _ H _ c k q=>q [] H k Kp.refl rfl (fun _ h=>by simp at h)
theorem S_{It:PP [d]}{m:Nat}(ha:ET X d ps e It)(hr:PA X es (tTs d ps m It))(hs:starEach (e::es) X.env=(false,eval e X.env)::starEach es X.env:=by exact ks_ rfl):PA X (e::es) (tTs d ps (m+1) It) :=
 nH_ (a_ ha hr hs) fun σ H Q c k q=>by
  refine⟨c,k,fun v1 H1 D1 k1 p1=>⟨c.per k1,D1,fun vs H2 D2 k2 hl p2=>q _ _ D2 (k1.trans k2) (by simp[hl]) fun v hv=>?_⟩⟩
  rcases List.mem_cons.mp hv with rfl | hv
  ·exact It.per _ _ _ k2 p1
  ·exact p2 v hv
theorem pM_{It:PP [d]}{m:Nat}(h:PA X es (tTs d ps m It))(hm:m<=100000:=by decide):ET X d ps (.List es pos) (lsP m m It):=weakT (A_ h) fun σ H Q c k q=>by
 refine⟨c,k,fun vs H1 D1 k1 hl p1=>⟨sz (by lia),fun z hz'=>q _ _ (D1.keep (f_ hz')) (k1.same (f_ hz')) ⟨z,vs,rfl,d_,D1.off1 hz',by lia,by lia,fun u hu=>?_⟩⟩⟩
 exact It.per _ _ _ (Kp.of (f_ hz')) (p1 u hu)
theorem e_ix{It:PP [d]}{l1 h1:Nat}{j:Int}(ha:ET X d ps a (lsP l1 h1 It))(hb:ET X d ps b (inP _ 0 j))(hj:j<l1:=by decide)(hs:cL_ b:=by intro _ _;rfl):ET X d ps (.Subscript a b pos) It :=
 weakT (ixl ha hb hs) fun σ H Q c k q=>by
  refine⟨c,k,fun v1 H1 D1 k1 p1=>⟨c.per k1,D1,fun v2 H2 D2 k2 p2=>?_⟩⟩
  obtain⟨x,xs,rfl,hx,nx,a1,a2,itx⟩:=(lsP l1 h1 It).per _ _ _ k2 p1
  obtain⟨i,rfl,i0,i1⟩:=p2
  obtain⟨v,ev,hv⟩:=ov_ (xs:=xs) (Pr:=It.holds H2) i0 (by lia) itx
  exact aI_ hx ev (q _ _ D2 (k1.trans k2) hv)
theorem es_{x:Str}{q1:Pos}{kl:Nat}{n:Int}(D1:Def X.prog X.w X.K X.mg X.base kl x ["store","many"] bg_)(hr:Room kl X.A)(hg:Gl X x)(ha:ET X d ps a (rfP _ d))(hb:ET X d ps b (inP _ n n))(h0:0<n:=by decide)(h1:n<1073741824:=by decide)(hdb:(x==("__debug__":Str))=false:=by decide)
  (hs:starEach [a,b] X.env=(false,eval a X.env)::starEach [b] X.env:=by rfl) (hs2:starEach [b] X.env=(false,eval b X.env)::starEach [] X.env:=by rfl) (hpl:(backTo pos (starEach [b] X.env)).any (·.1)=false:=by rfl) :
  ET X d ps (.Call (.Name x q1) [a,b] [] pos) (inP _ 0 (n-1)) :=
 weakT (l_ D1 hr hg (a_ ha (a_ hb c_ hs2) hs) hdb hs hpl) fun σ H Q c k q=>by
  refine⟨c,k,fun v1 H1 D1 k1 p1=>⟨c.per k1,D1,fun v2 H2 D2 k2 p2=>?_⟩⟩
  obtain⟨m,rfl,m0,m1⟩:=p2
  have em:m=n:=by lia
  subst em
  cases (show v1=.ref d from p1)
  exact⟨d,m,rfl,D2,h0,h1,fun r H3 r0 r1 D3 k3=>q _ _ D3 ((k1.trans k2).trans k3) ⟨r,rfl,r0,by lia⟩⟩
end
section
variable{X:Cx}{d:Addr}{ps:List (Option (PP [d]))}{e a b:Expr}{es:List Expr}{pos:Pos}
theorem dY_{i:Int}{j:_}:ET X d ps (.Constant (.int i) j pos) (inP _ i i):=nx_ e_ fun _=>⟨i,rfl,Int.le_refl _,Int.le_refl _⟩
theorem pK_{i:Int}{j:_}{q1:Pos}:ET X d ps (.UnaryOp .USub (.Constant (.int i) j q1) pos) (inP _ (-i) (-i)):=weakT (cj_ ax_ e_) fun σ H Q c k q=>⟨i,rfl,q _ H k Kp.refl ⟨-i,rfl,Int.le_refl _,Int.le_refl _⟩⟩
theorem rl_{l1 h1 l2 h2:Int}(ha:ET X d ps a (inP _ l1 h1))(hb:ET X d ps b (inP _ l2 h2)):ET X d ps (.BinOp a .Add b pos) (inP _ (l1+l2) (h1+h2)):=weakT (n_ C_ ha hb) fun σ H Q c k q=>by
 refine⟨c,k,fun v1 H1 D1 k1 p1=>⟨c.per k1,D1,fun v2 H2 D2 k2 p2=>?_⟩⟩
 obtain⟨i,rfl,x1,x2⟩:=p1
 obtain⟨j,rfl,y1,y2⟩:=p2
 exact⟨i,j,rfl,rfl,q _ _ D2 (k1.trans k2) ⟨_,rfl,by lia,by lia⟩⟩
theorem pJ_{l1 h1 l2 h2:Int}(ha:ET X d ps a (inP _ l1 h1))(hb:ET X d ps b (inP _ l2 h2)):ET X d ps (.BinOp a .Sub b pos) (inP _ (l1-h2) (h1-l2)):=weakT (n_ W_ ha hb) fun σ H Q c k q=>by
 refine⟨c,k,fun v1 H1 D1 k1 p1=>⟨c.per k1,D1,fun v2 H2 D2 k2 p2=>?_⟩⟩
 obtain⟨i,rfl,x1,x2⟩:=p1
 obtain⟨j,rfl,y1,y2⟩:=p2
 exact⟨i,j,rfl,rfl,q _ _ D2 (k1.trans k2) ⟨_,rfl,by lia,by lia⟩⟩
theorem lQ_{j1 j2:_}{q1 q2:Pos}:ET X d ps (.BinOp (.Constant (.int 10) j1 q1) .Pow (.Constant (.int 25) j2 q2) pos) (inP _ 10000000000000000000000000 10000000000000000000000000):=weakT (n_ el_ e_ e_) fun σ H Q c k q =>
 ⟨10,25,rfl,rfl,⟨by decide,by decide,by decide⟩,q _ H k Kp.refl ⟨_,rfl,by decide,by decide⟩⟩
end
structure MDef(P:Program)(w:World)(K:PySem.W.Frag)(mg:Str->Option Value)(base:Heap)(k:Nat)(C:Addr)(m:Str)(ps:List Str)(sp:Sp):Prop where
 ex:∃f fd,FnOk P w K mg base CX0 k f fd ps sp/\Meth K C m f/\Binds K fd ps []
structure CDef(P:Program)(w:World)(K:PySem.W.Frag)(mg:Str->Option Value)(base:Heap)(k:Nat)(x:Str)(C:Addr)(ps:List Str)(sp:Sp):Prop where
 ex:∃f fd,FnOk P w K mg base CX0 k f fd ps sp/\Mk K C f/\mg x=some (.ref C)/\Binds K fd ps []
section
variable{X:Cx}{k:Nat}{C:Addr}{x m:Str}{ps:List Str}{sp:Sp}{e o:Expr}{es:List Expr}{t:TA}{ta:TE}{p pos apos:Pos}
theorem kX_{pl:Sem Bool}(c:Cls X.K C)(D:MDef X.prog X.w X.K X.mg X.base k C m ps sp)(hr:Room k X.A)(he:PE X o ta)(ha:PA X (e::es) t)
  (hst:starEach (e::es) X.env=(false,eval e X.env)::starEach es X.env:=by rfl) (hpl:(backTo pos (starEach es X.env)).any (·.1)=false:=by rfl)
  (ht:eval (.Call (.Attribute o m apos) (e::es) [] pos) X.env=(do
   let ov <-eval o X.env
   standAt apos.atName
   let (f,first) <-holding [ov] (getMethod ov m pl)
   callWith pos f first (backTo pos (starEach (e::es) X.env)) (backToKw pos (keywordEach [] X.env))):=by rfl) :
  PE X (.Call (.Attribute o m apos) (e::es) [] pos) (tMeth C m sp [] E0 ta t):=by
 obtain⟨f,fd,G,h1,h2⟩:=D.ex
 exact pb_ he c h1 G hr h2 .nil pass0 ha hst hpl ht
theorem fR_{pl:Sem Bool}(c:Cls X.K C)(D:MDef X.prog X.w X.K X.mg X.base k C m ps sp)(hr:Room k X.A)(he:PE X o ta)
  (ht:eval (.Call (.Attribute o m apos) [] [] pos) X.env=(do
   let ov <-eval o X.env
   standAt apos.atName
   let (f,first) <-holding [ov] (getMethod ov m pl)
   callWith pos f first (backTo pos (starEach [] X.env)) (backToKw pos (keywordEach [] X.env))):=by rfl) :
  PE X (.Call (.Attribute o m apos) [] [] pos) (tMeth C m sp [] E0 ta tNil):=by
 obtain⟨f,fd,G,h1,h2⟩:=D.ex
 exact mP_ he c h1 G hr h2 .nil pass0 ht
theorem qv_(D:CDef X.prog X.w X.K X.mg X.base k x C ps sp)(hr:Room (k+1) X.A)(hg:Gl X x)(ha:PA X (e::es) t)(hdb:(x==("__debug__":Str))=false:=by decide)
  (he:starEach (e::es) X.env=(false,eval e X.env)::starEach es X.env:=by rfl) (hpl:(backTo pos (starEach es X.env)).any (·.1)=false:=by rfl):PE X (.Call (.Name x p) (e::es) [] pos) (tMake C sp [] E0 t):=by
 obtain⟨f,fd,G,h1,h2,h3⟩:=D.ex
 exact pc_ h1 G hr hg h2 h3 .nil pass0 ha hdb he hpl
end
abbrev AF:=Addr×Addr×Addr
def bk_:Sp:=fun vs H Q _=>∃(f a c:Addr) (b:Nat) (ps:List Nat) (ws:List Int),vs=[.ref f]/\FrAt H f a c b ps ws/\∀(f' a' c':Addr) (H':Hp),Same H H'->FrAt H' f' a' c' b ps ws->H f'=none->H a'=none->H c'=none->a'≠c'->Q (.ref f') H'
def stF(sl:Addr):List (Str×V):=putF "standing" (.ref sl) []
theorem aS_{sl:Addr}:(stF sl).lookup ("standing":Str)=some (.ref sl):=by
 unfold stF
 rw[aZ_,if_pos rfl]
theorem aL_{sl:Addr}{m:Str}(h:¬ m="standing"):(stF sl).lookup m=none:=by
 unfold stF
 rw[aZ_,if_neg h]
 rfl
structure KpAt(C:Addr)(H:Hp)(kp dx sl:Addr)(as:List AF)(b:Nat)(ps:List Nat)(wss:List (List Int)):Prop where
 ob:H kp=some (.ins C dx (stF sl))
 ls:H sl=some (.lst (as.map fun x=>V.ref x.1))
 len:as.length=wss.length
 each:∀(i:Nat) (x:AF) (ws:List Int),as[i]?=some x->wss[i]?=some ws->FrAt H x.1 x.2.1 x.2.2 b ps ws
section
variable{C:Addr}{H H':Hp}{kp dx sl:Addr}{as:List AF}{b:Nat}{ps:List Nat}{wss:List (List Int)}
theorem KpAt.keep(S:KpAt C H kp dx sl as b ps wss)(s:Same H H'):KpAt C H' kp dx sl as b ps wss:=⟨s _ _ S.ob,s _ _ S.ls,S.len,fun i x ws h1 h2=>(S.each i x ws h1 h2).keep s⟩
theorem KpAt.last{ini:List (List Int)}{ws:List Int}(S:KpAt C H kp dx sl as b ps (ini++[ws])):∃ai x,as=ai++[x]/\ai.length=ini.length/\FrAt H x.1 x.2.1 x.2.2 b ps ws/\atI (as.map fun x=>V.ref x.1) (-1)=some (V.ref x.1):=by
 have hne:as≠[]:=fun z=>by have:=S.len;rw[z] at this;simp at this
 refine⟨as.dropLast,as.getLast hne,(List.dropLast_concat_getLast hne).symm,?_,?_,?_⟩
 ·rw[List.length_dropLast,S.len];simp
 ·refine S.each (as.length-1) _ _ ?_ ?_
  ·rw[<-List.getLast?_eq_getElem?,List.getLast?_eq_some_getLast hne]
  ·rw[S.len,List.length_append,List.length_singleton,Nat.add_sub_cancel,List.getElem?_append_right (Nat.le_refl _)];simp
 ·have e:(as.map fun x=>V.ref x.1)=(as.dropLast.map fun x=>V.ref x.1)++[V.ref (as.getLast hne).1]:=by
   conv=>lhs;rw[<-List.dropLast_concat_getLast hne]
   rw[List.map_append];rfl
  rw[e];exact dk_ _ _
theorem KpAt.push{ws:List Int}{x:AF}(S:KpAt C H kp dx sl as b ps wss)(G:FrAt H x.1 x.2.1 x.2.2 b ps ws)(hk:kp≠sl)(ho:∀x'∈as++[x],sl≠x'.1/\sl≠x'.2.1/\sl≠x'.2.2):KpAt C (upd H sl (.lst ((as.map fun x=>V.ref x.1)++[V.ref x.1]))) kp dx sl (as++[x]) b ps (wss++[ws]):=by
 have mv:∀ {y:AF} {v:List Int},(sl≠y.1/\sl≠y.2.1/\sl≠y.2.2)->FrAt H y.1 y.2.1 y.2.2 b ps v->FrAt (upd H sl (.lst ((as.map fun x=>V.ref x.1)++[V.ref x.1]))) y.1 y.2.1 y.2.2 b ps v:=fun h g =>
  ⟨by rw[i_ h.1.symm];exact g.tp,by rw[i_ h.2.1.symm];exact g.hp,by rw[i_ h.2.2.symm];exact g.hw,g.ok⟩
 refine⟨by rw[i_ hk];exact S.ob,by rw[d_,List.map_append];rfl,by simp[S.len],fun i y v h1 h2=>?_⟩
 by_cases hi:i<as.length
 ·rw[List.getElem?_append_left hi] at h1
  rw[List.getElem?_append_left (by rw[<-S.len];exact hi)] at h2
  exact mv (ho y (List.mem_append_left _ (List.mem_of_getElem? h1))) (S.each i y v h1 h2)
 ·have hl:=(List.getElem?_eq_some_iff.mp h1).1
  rw[List.length_append,List.length_singleton] at hl
  have e:i=as.length:=by lia
  subst e
  rw[List.getElem?_append_right (Nat.le_refl _)] at h1
  rw[S.len,List.getElem?_append_right (Nat.le_refl _)] at h2
  simp at h1 h2
  subst h1;subst h2
  exact mv (ho x (List.mem_append_right _ (List.mem_singleton.mpr rfl))) G
theorem KpAt.sl_off(S:KpAt C H kp dx sl as b ps wss)(hne:as≠[]):kp≠sl/\∀x'∈as,sl≠x'.1/\sl≠x'.2.1/\sl≠x'.2.2:=by
 refine⟨fun z=>(by have h1:=S.ob;rw[z,S.ls] at h1;cases h1),fun x hx=>?_⟩
 obtain⟨i,hi⟩:=List.getElem?_of_mem hx
 have hl:i<wss.length:=by rw[<-S.len];exact(List.getElem?_eq_some_iff.mp hi).1
 have G:=S.each i x _ hi (List.getElem?_eq_getElem hl)
 have l2:=G.ok.l2
 have hwl:=G.ok.wl
 have hsm:=G.ok.sum
 obtain⟨x0,r,rfl⟩:=List.exists_cons_of_ne_nil hne
 refine⟨fun z=>?_,fun z=>?_,fun z=>?_⟩
 ·have h1:=G.tp;rw[<-z,S.ls] at h1;cases h1
 ·have h1:=G.hp;rw[<-z,S.ls] at h1
  cases ps with
  | nil=>simp at l2
  | cons p q=>simp[natV] at h1
 ·have h1:=G.hw;rw[<-z,S.ls] at h1
  generalize wss[i]=ww at h1 hwl hsm
  cases ww with
  | nil=>simp at hwl;lia
  | cons p q=>simp at h1
theorem KpAt.pop{ws:List Int}{ai:List AF}{x:AF}(S:KpAt C H kp dx sl (ai++[x]) b ps (wss++[ws]))(hne:ai≠[]):KpAt C (upd H sl (.lst (ai.map fun x=>V.ref x.1))) kp dx sl ai b ps wss:=by
 have ⟨o1,o2⟩:=S.sl_off (by simp)
 have hl:ai.length=wss.length:=by have:=S.len;simp at this;exact this
 refine⟨by rw[i_ o1];exact S.ob,d_,hl,fun i y v h1 h2=>?_⟩
 have hi:=(List.getElem?_eq_some_iff.mp h1).1
 have g:=S.each i y v (by rw[List.getElem?_append_left hi];exact h1) (by rw[List.getElem?_append_left (by lia)];exact h2)
 have h:=o2 y (List.mem_append_left _ (List.mem_of_getElem? h1))
 exact⟨by rw[i_ h.1.symm];exact g.tp,by rw[i_ h.2.1.symm];exact g.hp,by rw[i_ h.2.2.symm];exact g.hw,g.ok⟩
end
abbrev evN(b:Nat)(ps:List Nat)(ws:List Int):Int:=Mx.nrN b 0 ps ws (b ^ ps.sum)
def fC_:Sp:=fun vs H Q _=>∃(f a c:Addr) (b:Nat) (ps:List Nat) (ws:List Int) (p:Nat) (wt:Int),vs=[.ref f,.int p,.int wt]/\FrAt H f a c b ps ws/\p<ws.length/\-9<=wt/\wt<=9/\∀(f' a' c':Addr) (H':Hp),Same H H'->FrAt H' f' a' c' b ps (ws.set p wt)->H f'=none->H a'=none->H c'=none->Q (.ref f') H'
def ii_(C:Addr):Sp:=fun vs H Q _=>∃(kp dx f a c:Addr) (b:Nat) (ps:List Nat) (ws:List Int),vs=[.ref kp,.ref f]/\H kp=some (.ins C dx [])/\FrAt H f a c b ps ws/\∀(sl:Addr) (x:AF) (H':Hp),H sl=none->H x.1=none->H x.2.1=none->H x.2.2=none->KpAt C H' kp dx sl [x] b ps [ws]->Kp [kp] H H'->Q .non H'
def eC_(C:Addr):Sp:=fun vs H Q _=>∃(kp dx sl:Addr) (as:List AF) (b:Nat) (ps:List Nat) (ini:List (List Int)) (ws:List Int) (p:Nat) (wt:Int),vs=[.ref kp,.int p,.int wt]/\KpAt C H kp dx sl as b ps (ini++[ws])/\p<ws.length/\-9<=wt/\wt<=9/\ini.length<=1000/\
 ∀(t:Addr) (x:AF) (H':Hp),H t=none->H' t=some (.tup [.int (evN b ps ws),.int (evN b ps (ws.set p wt))])->H x.1=none->H x.2.1=none->H x.2.2=none->KpAt C H' kp dx sl (as++[x]) b ps (ini++[ws]++[ws.set p wt])->Kp [sl] H H'->Q (.ref t) H'
def ig_(C:Addr):Sp:=fun vs H Q _=>∃(kp dx sl:Addr) (ai:List AF) (x:AF) (b:Nat) (ps:List Nat) (ini:List (List Int)) (ws wz:List Int),vs=[.ref kp]/\KpAt C H kp dx sl (ai++[x]) b ps (ini++[ws]++[wz])/\ini.length<=1000/\
 ∀(t:Addr) (H':Hp),H t=none->H' t=some (.tup [.int (evN b ps wz),.int (evN b ps ws)])->KpAt C H' kp dx sl ai b ps (ini++[ws])->Kp [sl] H H'->Q (.ref t) H'
def db_(C:Addr):Sp:=fun vs H Q _=>∃(kp dx sl:Addr) (as:List AF) (b:Nat) (ps:List Nat) (ini:List (List Int)) (ws:List Int),vs=[.ref kp]/\KpAt C H kp dx sl as b ps (ini++[ws])/\∀(f' a' c':Addr) (H':Hp),Same H H'->FrAt H' f' a' c' b ps ws->H f'=none->H a'=none->H c'=none->Q (.ref f') H'
def gP_(C:Addr):Sp:=fun vs H Q _=>∃(kp dx sl:Addr) (as:List AF) (b:Nat) (ps:List Nat) (ini:List (List Int)) (ws:List Int) (d:Nat),vs=[.ref kp,.int d]/\KpAt C H kp dx sl as b ps (ini++[ws])/\∀H':Hp,Same H H'->Q (.int (Mx.nrN b d ps ws (b ^ ps.sum))) H'
def gS_(C:Addr):Sp:=fun vs H Q _=>∃(kp dx sl:Addr) (as:List AF) (b:Nat) (ps:List Nat) (ini:List (List Int)) (ws:List Int) (k:Nat),vs=[.ref kp,.int k]/\KpAt C H kp dx sl as b ps (ini++[ws])/\∀(v:V) (H':Hp),Same H H'->ByV b 0 ps ws k v->Q v H'
def cd_(C:Addr):Sp:=fun vs H Q _=>∃(kp dx sl:Addr) (as:List AF) (b:Nat) (ps:List Nat) (wss:List (List Int)),vs=[.ref kp]/\KpAt C H kp dx sl as b ps wss/\Q (.int ((wss.length:Int)-1)) H
theorem hG_{n p:Nat}(h:p<n):ixN n (p:Int)=some p:=by
 unfold ixN
 simp
 lia
section
variable{P:Program}{w:World}{K:PySem.W.Frag}{mg:Str->Option Value}{base:Heap}{C:Addr}
theorem io_:FnScope ["frame"] ["frame"] (g_ hf_):=⟨rfl,rfl,rfl,by decide +kernel,rfl,by decide +kernel,by decide +kernel⟩
theorem ln_{f:Addr}{fd:FuncData}(F:Fun K "copy_of" "copy_of" hf_ f fd)(T:Txt mg):FnOk P w K mg base CX0 1 f fd ["frame"] bk_:=by
 refine F.ok io_ (fun vs H Q E h=>?_) (fun cdv A outer s H vs Q E hr h=>?_)
 ·obtain⟨f,a,c,b,ps,ws,rfl,_⟩:=h;rfl
 ·obtain⟨f,a,c,b,ps,ws,rfl,G,k⟩:=h
  have nd:=io_.nd
  refine⟨_,(h_ (m_ (ac_ (a_ (ixt (pv 0) e_) (a_ (R_ aj_ (by rfl) T.list boot_list (a_ (ixt (pv 0) e_) c_)) (a_ (R_ aj_ (by rfl) T.list boot_list (a_ (ixt (pv 0) e_) c_)) c_)))))),?_⟩
  refine⟨_,rfl,_,_,_,_,rfl,rfl,SqT.of G.tp,rfl,⟨_,rfl,_,_,_,_,rfl,rfl,SqT.of G.tp,rfl,⟨a,_,rfl,.inl (SqL.of G.hp),fun a' ha'=>?_⟩⟩⟩
  have s1:=f_ (o:=.lst (natV ps)) ha'
  have u1:(upd H a' (.lst (natV ps))) a'=_:=d_
  generalize upd H a' (.lst (natV ps))=H1 at s1 u1⊢
  refine⟨_,rfl,_,_,_,_,rfl,rfl,SqT.of (s1 _ _ G.tp),rfl,⟨c,_,rfl,.inl (SqL.of (s1 _ _ G.hw)),fun c' hc'=>⟨sz (by simp),fun f' hf'=>?_⟩⟩⟩
  have s2:=f_ (o:=.lst (ws.map V.int)) hc'
  have s3:=f_ (o:=.tup [.int b,.ref a',.ref c']) hf'
  exact k f' a' c' _ (s1.trans (s2.trans s3)) ⟨d_,s3 _ _ (s2 _ _ u1),s3 _ _ d_,G.ok⟩ (s1.free (s2.free hf')) ha' (s1.free hc') (fun z=>by rw[<-z,u1] at hc';cases hc')
theorem bl_:FnScope ["frame","place","weight","changed"] ["frame","place","weight"] (g_ aW_):=⟨rfl,rfl,rfl,by decide +kernel,rfl,by decide +kernel,by decide +kernel⟩
theorem lf_{f:Addr}{fd:FuncData}(F:Fun K "with_weight" "with_weight" aW_ f fd)(T:Txt mg)(d_is_between:Def P w K mg base 2 "is_between" ["thing","least","greatest"] bH_)(d_copy_of:Def P w K mg base 1 "copy_of" ["frame"] bk_):FnOk P w K mg base CX0 3 f fd ["frame","place","weight"] fC_:=by
 refine F.ok bl_ (fun vs H Q E h=>?_) (fun cdv A outer s H vs Q E hr h=>?_)
 ·obtain⟨f,a,c,b,ps,ws,p,wt,rfl,_⟩:=h;rfl
 ·obtain⟨f,a,c,b,ps,ws,p,wt,rfl,G,hp,w1,w2,k⟩:=h
  have nd:=bl_.nd
  refine⟨_,(b_ (F_ (al_ (ag_ (l_ d_is_between hr (by rfl) (a_ (pv 1) (a_ e_ (a_ (n_ W_ (lenS T.len (by rfl) (ixt (pv 0) e_)) e_) c_)))))) Q_ q_)
   (b_ (F_ (al_ (ag_ (l_ d_is_between hr (by rfl) (a_ (pv 2) (a_ (cj_ ax_ e_) (a_ e_ c_)))))) Q_ q_)
   (b_ (j_ (i:=3) nd rfl (Or.inl rfl) (l_ d_copy_of hr.mo (by rfl) (a_ (pv 0) c_)))
   (b_ (ch_ (pv 2) (fQ_ (ixt (pv 3) e_) (pv 1) ce_))
   (h_ (m_ (pv 3))))))),?_⟩
  refine⟨_,rfl,_,rfl,qq_ G.tp rfl ⟨c,_,rfl,.inl (SqL.of G.hw),_,_,rfl,rfl,.int (p:Int),0,_,rfl,.int _,_,rfl,?_⟩⟩
  rw[show betw (.int (p:Int)) 0 ((((ws.map V.int).length:Nat):Int)-1)=true by simp[betw];lia]
  refine iteF ⟨_,rfl,_,rfl,.int wt,-9,9,rfl,.int _,_,rfl,?_⟩
  rw[show betw (.int wt) (-9) 9=true by simp[betw];lia]
  refine iteF ⟨_,rfl,f,a,c,b,ps,ws,rfl,G,fun f' a' c' H1 s1 G1 nf na nc nac=>?_⟩
  refine⟨_,rfl,_,rfl,_,_,_,_,rfl,rfl,SqT.of G1.tp,rfl,_,rfl,c',_,_,p,rfl,rfl,G1.hw,by rw[List.length_map];exact hG_ hp,?_⟩
  have e:(ws.map V.int).set p (V.int wt)=(ws.set p wt).map V.int:=by rw[List.map_set]
  have nfc:f'≠c':=fun z=>by have h1:=G1.tp;rw[z,G1.hw] at h1;cases h1
  refine⟨_,rfl,k f' a' c' _ ?_ ⟨by rw[i_ nfc];exact G1.tp,by rw[i_ nac];exact G1.hp,by rw[d_,e],?_⟩ nf na nc⟩
  ·intro y o hy
   rw[i_ (fun z=>by rw[z,nc] at hy;cases hy)]
   exact s1 y o hy
  ·exact⟨G.ok.b2,G.ok.b16,G.ok.l2,G.ok.l4,G.ok.pr,by rw[List.length_set];exact G.ok.wl,fun v hv=>by
    rcases List.mem_or_eq_of_mem_set hv with h | h
    ·exact G.ok.wr v h
    ·subst h;exact⟨w1,w2⟩⟩
theorem cN_:FnScope ["self","frame"] ["self","frame"] (g_ bR_):=⟨rfl,rfl,rfl,by decide +kernel,rfl,by decide +kernel,by decide +kernel⟩
theorem mX_{f:Addr}{fd:FuncData}(F:Fun K "__init__" "Keeper.__init__" bR_ f fd)(nS:aF_ K C "standing")(d_need_frame:Def P w K mg base 5 "need_frame" ["thing"] K_)(d_copy_of:Def P w K mg base 1 "copy_of" ["frame"] bk_)(cl:Cls K C):FnOk P w K mg base CX0 6 f fd ["self","frame"] (ii_ C):=by
 refine F.ok cN_ (fun vs H Q E h=>?_) (fun cdv A outer s H vs Q E hr h=>?_)
 ·obtain⟨kp,dx,f,a,c,b,ps,ws,rfl,_⟩:=h;rfl
 ·obtain⟨kp,dx,f,a,c,b,ps,ws,rfl,hk,G,k⟩:=h
  have nd:=cN_.nd
  refine⟨_,(b_ (I_ (l_ d_need_frame hr (by rfl) (a_ (pv 1) c_)))
   (h_ (qs_ (pv 0) (A_ (a_ (l_ d_copy_of hr.mo (by rfl) (a_ (pv 1) c_)) c_)) rfl))),?_⟩
  refine⟨_,rfl,f,a,c,b,ps,ws,rfl,G,fun H1 s1=>?_⟩
  refine⟨_,rfl,f,a,c,b,ps,ws,rfl,G.keep s1,fun f' a' c' H2 s2 G2 nf na nc nac=>⟨sz (by simp),fun sl hsl=>?_⟩⟩
  have s3:=f_ (o:=.lst [V.ref f']) hsl
  have u3:(upd H2 sl (.lst [V.ref f'])) sl=_:=d_
  generalize upd H2 sl (.lst [V.ref f'])=H3 at s3 u3⊢
  have S3:=(s1.trans s2).trans s3
  have hk3:=S3 _ _ hk
  have G3:=G2.keep s3
  have nk:∀ {y:Addr} {o:HO},H y=none->y≠kp:=fun h z=>by rw[z,hk] at h;cases h
  refine⟨_,rfl,kp,C,dx,[],rfl,hk3,cl,nS,by show 0<1000;decide,?_⟩
  refine k sl (f',a',c') _ ((s1.trans s2).free hsl) (s1.free nf) (s1.free na) (s1.free nc) ⟨d_,?_,rfl,?_⟩ ?_
  ·rw[i_ (nk (o:=.lst []) ((s1.trans s2).free hsl))];exact u3
  ·intro i x v h1 h2
   have hi:=(List.getElem?_eq_some_iff.mp h1).1
   have e:i=0:=by simp at hi;lia
   subst e
   simp at h1 h2
   subst h1;subst h2
   exact⟨by rw[i_ (nk (o:=.lst []) (s1.free nf))];exact G3.tp,by rw[i_ (nk (o:=.lst []) (s1.free na))];exact G3.hp,by rw[i_ (nk (o:=.lst []) (s1.free nc))];exact G3.hw,G3.ok⟩
  ·intro y o hy hn
   rw[i_ (fun z=>hn (by rw[z];exact List.mem_singleton.mpr rfl))]
   exact S3 y o hy
theorem bn_:FnScope ["self"] ["self"] (g_ aG_):=⟨rfl,rfl,rfl,by decide +kernel,rfl,by decide +kernel,by decide +kernel⟩
theorem hw_{f:Addr}{fd:FuncData}(F:Fun K "changes" "Keeper.changes" aG_ f fd)(T:Txt mg)(nS:aF_ K C "standing")(cl:Cls K C):FnOk P w K mg base CX0 1 f fd ["self"] (cd_ C):=by
 refine F.ok bn_ (fun vs H Q E h=>?_) (fun cdv A outer s H vs Q E hr h=>?_)
 ·obtain⟨kp,dx,sl,as,b,ps,wss,rfl,_⟩:=h;rfl
 ·obtain⟨kp,dx,sl,as,b,ps,wss,rfl,S,k⟩:=h
  have nd:=bn_.nd
  refine⟨_,(h_ (m_ (n_ W_ (lenS T.len (by rfl) (ck_ (pv 0) rfl)) e_))),?_⟩
  refine⟨_,rfl,kp,C,dx,_,_,rfl,S.ob,cl,nS,aS_,sl,_,rfl,.inl (SqL.of S.ls),_,_,rfl,rfl,?_⟩
  rw[List.length_map,S.len]
  exact k
theorem cf_:FnScope ["self"] ["self"] (g_ bq_):=⟨rfl,rfl,rfl,by decide +kernel,rfl,by decide +kernel,by decide +kernel⟩
theorem lk_{f:Addr}{fd:FuncData}(F:Fun K "frame" "Keeper.frame" bq_ f fd)(nS:aF_ K C "standing")(d_copy_of:Def P w K mg base 1 "copy_of" ["frame"] bk_)(cl:Cls K C):FnOk P w K mg base CX0 2 f fd ["self"] (db_ C):=by
 refine F.ok cf_ (fun vs H Q E h=>?_) (fun cdv A outer s H vs Q E hr h=>?_)
 ·obtain⟨kp,dx,sl,as,b,ps,ini,ws,rfl,_⟩:=h;rfl
 ·obtain⟨kp,dx,sl,as,b,ps,ini,ws,rfl,S,k⟩:=h
  have nd:=cf_.nd
  refine⟨_,(h_ (m_ (l_ d_copy_of hr (by rfl) (a_ (ixl (ck_ (pv 0) rfl) (cj_ ax_ e_)) c_)))),?_⟩
  obtain⟨ai,x,rfl,hai,G,e⟩:=S.last
  refine⟨_,rfl,kp,C,dx,_,_,rfl,S.ob,cl,nS,aS_,_,rfl,aI_ S.ls e ⟨_,_,_,b,ps,ws,rfl,G,fun f' a' c' H' s' G' nf na nc _=>k f' a' c' H' s' G' nf na nc⟩⟩
theorem cM_:FnScope ["self","d"] ["self","d"] (g_ bQ_):=⟨rfl,rfl,rfl,by decide +kernel,rfl,by decide +kernel,by decide +kernel⟩
theorem mW_{f:Addr}{fd:FuncData}(F:Fun K "near" "Keeper.near" bQ_ f fd)(nS:aF_ K C "standing")(d_count_near:Def P w K mg base 6 "count_near" ["frame","d"] aU_)(cl:Cls K C):FnOk P w K mg base CX0 7 f fd ["self","d"] (gP_ C):=by
 refine F.ok cM_ (fun vs H Q E h=>?_) (fun cdv A outer s H vs Q E hr h=>?_)
 ·obtain⟨kp,dx,sl,as,b,ps,ini,ws,d,rfl,_⟩:=h;rfl
 ·obtain⟨kp,dx,sl,as,b,ps,ini,ws,d,rfl,S,k⟩:=h
  have nd:=cM_.nd
  refine⟨_,(h_ (m_ (l_ d_count_near hr (by rfl) (a_ (ixl (ck_ (pv 0) rfl) (cj_ ax_ e_)) (a_ (pv 1) c_))))),?_⟩
  obtain⟨ai,x,rfl,hai,G,e⟩:=S.last
  exact⟨_,rfl,kp,C,dx,_,_,rfl,S.ob,cl,nS,aS_,_,rfl,aI_ S.ls e ⟨_,rfl,_,_,_,b,ps,ws,d,rfl,G,fun H' s'=>k H' s'⟩⟩
theorem cO_:FnScope ["self","k"] ["self","k"] (g_ bS_):=⟨rfl,rfl,rfl,by decide +kernel,rfl,by decide +kernel,by decide +kernel⟩
theorem mY_{f:Addr}{fd:FuncData}(F:Fun K "even" "Keeper.even" bS_ f fd)(nS:aF_ K C "standing")(d_even_by:Def P w K mg base 13 "even_by" ["frame","k"] eJ_)(cl:Cls K C):FnOk P w K mg base CX0 14 f fd ["self","k"] (gS_ C):=by
 refine F.ok cO_ (fun vs H Q E h=>?_) (fun cdv A outer s H vs Q E hr h=>?_)
 ·obtain⟨kp,dx,sl,as,b,ps,ini,ws,j,rfl,_⟩:=h;rfl
 ·obtain⟨kp,dx,sl,as,b,ps,ini,ws,j,rfl,S,k⟩:=h
  have nd:=cO_.nd
  refine⟨_,(h_ (m_ (l_ d_even_by hr (by rfl) (a_ (ixl (ck_ (pv 0) rfl) (cj_ ax_ e_)) (a_ (pv 1) c_))))),?_⟩
  obtain⟨ai,x,rfl,hai,G,e⟩:=S.last
  exact⟨_,rfl,kp,C,dx,_,_,rfl,S.ob,cl,nS,aS_,_,rfl,aI_ S.ls e ⟨_,rfl,_,_,_,b,ps,ws,j,rfl,G,fun v H' s' hv=>k v H' s' hv⟩⟩
theorem an_:FnScope ["self","place","weight","earlier","later"] ["self","place","weight"] (g_ aC_):=⟨rfl,rfl,rfl,by decide +kernel,rfl,by decide +kernel,by decide +kernel⟩
theorem gc_{f:Addr}{fd:FuncData}(F:Fun K "weigh" "Keeper.weigh" aC_ f fd)(nS:aF_ K C "standing")(d_with_weight:Def P w K mg base 3 "with_weight" ["frame","place","weight"] fC_)(d_count_even:Def P w K mg base 7 "count_even" ["frame"] af_)(cl:Cls K C):FnOk P w K mg base CX0 8 f fd ["self","place","weight"] (eC_ C):=by
 refine F.ok an_ (fun vs H Q E h=>?_) (fun cdv A outer s H vs Q E hr h=>?_)
 ·obtain⟨kp,dx,sl,as,b,ps,ini,ws,p,wt,rfl,_⟩:=h;rfl
 ·obtain⟨kp,dx,sl,as,b,ps,ini,ws,p,wt,rfl,S,hp,w1,w2,hl,k⟩:=h
  have nd:=an_.nd
  refine⟨_,(b_ (j_ (i:=3) nd rfl (Or.inl rfl) (ixl (ck_ (pv 0) rfl) (cj_ ax_ e_)))
   (b_ (j_ (i:=4) nd rfl (Or.inl rfl) (l_ d_with_weight hr.mo (by rfl) (a_ (pv 3) (a_ (pv 1) (a_ (pv 2) c_)))))
   (b_ (I_ (fS_ PySem.F.plainAttrs_list PySem.F.slot_list_append PySem.F.type_list_append ah_ (ck_ (pv 0) rfl) (a_ (pv 4) c_)))
   (h_ (m_ (ac_ (a_ (l_ d_count_even hr (by rfl) (a_ (pv 3) c_)) (a_ (l_ d_count_even hr (by rfl) (a_ (pv 4) c_)) c_)))))))),?_⟩
  obtain⟨ai,x,e0,hai,G,e⟩:=S.last
  have hne:as≠[]:=by rw[e0];simp
  obtain⟨o1,o2⟩:=S.sl_off hne
  refine⟨_,rfl,kp,C,dx,_,_,rfl,S.ob,cl,nS,aS_,_,rfl,aI_ S.ls e ?_⟩
  refine⟨_,rfl,_,rfl,_,rfl,_,_,_,b,ps,ws,p,wt,rfl,G,hp,w1,w2,fun f' a' c' H1 s1 G1 nf na nc=>?_⟩
  have S1:=S.keep s1
  have hs:∀ {y:Addr},H y=none->sl≠y:=fun h z=>by rw[<-z,S.ls] at h;cases h
  refine⟨_,rfl,kp,C,dx,_,_,rfl,S1.ob,cl,nS,aS_,.inl ⟨rfl,_,SqL.of S1.ls⟩,_,rfl,sl,_,_,rfl,rfl,S1.ls,szl (by rw[List.length_map,S.len];simp;lia),?_⟩
  have S2:=S1.push (x:=(f',a',c')) G1 o1 (fun x' hx'=>by
   rcases List.mem_append.mp hx' with h | h
   ·exact o2 x' h
   ·rw[List.mem_singleton.mp h];exact⟨hs nf,hs na,hs nc⟩)
  have K2:Kp [sl] H (upd H1 sl (.lst ((as.map fun x=>V.ref x.1)++[V.ref f']))):=fun y o hy hn=>by
   rw[i_ (fun z=>hn (by rw[z];exact List.mem_singleton.mpr rfl))]
   exact s1 y o hy
  have Gx:FrAt (upd H1 sl (.lst ((as.map fun x=>V.ref x.1)++[V.ref f']))) x.1 x.2.1 x.2.2 b ps ws:=by
   have h:=o2 x (by rw[e0];simp)
   have g:=G.keep s1
   exact⟨by rw[i_ h.1.symm];exact g.tp,by rw[i_ h.2.1.symm];exact g.hp,by rw[i_ h.2.2.symm];exact g.hw,g.ok⟩
  have Gy:FrAt (upd H1 sl (.lst ((as.map fun x=>V.ref x.1)++[V.ref f']))) f' a' c' b ps (ws.set p wt) :=
   ⟨by rw[i_ (hs nf).symm];exact G1.tp,by rw[i_ (hs na).symm];exact G1.hp,by rw[i_ (hs nc).symm];exact G1.hw,G1.ok⟩
  generalize upd H1 sl (.lst ((as.map fun x=>V.ref x.1)++[V.ref f']))=H2 at S2 K2 Gx Gy⊢
  refine⟨_,rfl,x.1,x.2.1,x.2.2,b,ps,ws,rfl,Gx,fun H3 s3=>?_⟩
  refine⟨_,rfl,f',a',c',b,ps,_,rfl,Gy.keep s3,fun H4 s4=>⟨sz (by simp),fun t ht=>?_⟩⟩
  have s5:=f_ (o:=.tup [.int (evN b ps ws),.int (evN b ps (ws.set p wt))]) ht
  have K4:Kp [sl] H H4:=(K2.same s3).same s4
  exact k t (f',a',c') _ (K4.free ht (fun z=>by rw[List.mem_singleton.mp z,(S2.keep (s3.trans s4)).ls] at ht;cases ht)) d_ nf na nc (S2.keep ((s3.trans s4).trans s5)) (K4.same s5)
theorem bm_:FnScope ["self","undone"] ["self"] (g_ aX_):=⟨rfl,rfl,rfl,by decide +kernel,rfl,by decide +kernel,by decide +kernel⟩
theorem iC_{f:Addr}{fd:FuncData}(F:Fun K "undo" "Keeper.undo" aX_ f fd)(nS:aF_ K C "standing")(d_count_even:Def P w K mg base 7 "count_even" ["frame"] af_)(cl:Cls K C)(m_changes:MDef P w K mg base 1 C "changes" ["self"] (cd_ C)):FnOk P w K mg base CX0 8 f fd ["self"] (ig_ C):=by
 refine F.ok bm_ (fun vs H Q E h=>?_) (fun cdv A outer s H vs Q E hr h=>?_)
 ·obtain⟨kp,dx,sl,ai,x,b,ps,ini,ws,wz,rfl,_⟩:=h;rfl
 ·obtain⟨kp,dx,sl,ai,x,b,ps,ini,ws,wz,rfl,S,hl,k⟩:=h
  have nd:=bm_.nd
  refine⟨_,(b_ (F_ (s_ cn_ (fR_ cl m_changes hr.mo (pv 0)) e_ (nomark _)) Q_ q_)
   (b_ (j_ (i:=1) nd rfl (Or.inl rfl) (qy_ PySem.F.plainAttrs_list PySem.F.slot_list_pop PySem.F.type_list_pop qM_ (ck_ (pv 0) rfl)))
   (h_ (m_ (ac_ (a_ (l_ d_count_even hr (by rfl) (a_ (pv 1) c_)) (a_ (l_ d_count_even hr (by rfl) (a_ (ixl (ck_ (pv 0) rfl) (cj_ ax_ e_)) c_)) c_))))))),?_⟩
  have Gz:FrAt H x.1 x.2.1 x.2.2 b ps wz:=by
   have:=S.len
   simp at this
   refine S.each ai.length x wz (by simp) ?_
   rw[show ai.length=(ini++[ws]).length by simp;lia,List.getElem?_append_right (Nat.le_refl _)]
   simp
  have hla:ai.length=ini.length+1:=by have:=S.len;simp at this;lia
  have hne:ai≠[]:=fun z=>by rw[z] at hla;simp at hla
  obtain⟨o1,o2⟩:=S.sl_off (by simp)
  refine⟨_,rfl,kp,dx,_,rfl,S.ob,aL_ (by decide +kernel),kp,dx,sl,_,b,ps,_,rfl,S,rfl,_,rfl,?_⟩
  rw[decide_eq_false (by intro z;injection z with z;simp at z;lia)]
  refine iteF ?_
  have elast:((ai++[x]).map fun x=>V.ref x.1)[((ai++[x]).map fun x=>V.ref x.1).length-1]?=some (V.ref x.1):=by simp
  have edrop:((ai++[x]).map fun x=>V.ref x.1).dropLast=ai.map fun x=>V.ref x.1:=by rw[List.map_append];simp
  refine⟨_,rfl,kp,C,dx,_,_,rfl,S.ob,cl,nS,aS_,.inl ⟨rfl,_,SqL.of S.ls⟩,sl,_,_,rfl,rfl,S.ls,elast,?_⟩
  rw[edrop]
  have S1:=S.pop hne
  have K1:Kp [sl] H (upd H sl (.lst (ai.map fun x=>V.ref x.1))):=fun y o hy hn=>by
   rw[i_ (fun z=>hn (by rw[z];exact List.mem_singleton.mpr rfl))]
   exact hy
  have h:=o2 x (by simp)
  have G1:FrAt (upd H sl (.lst (ai.map fun x=>V.ref x.1))) x.1 x.2.1 x.2.2 b ps wz:=⟨by rw[i_ h.1.symm];exact Gz.tp,by rw[i_ h.2.1.symm];exact Gz.hp,by rw[i_ h.2.2.symm];exact Gz.hw,Gz.ok⟩
  generalize upd H sl (.lst (ai.map fun x=>V.ref x.1))=H1 at S1 K1 G1⊢
  refine⟨_,rfl,x.1,x.2.1,x.2.2,b,ps,wz,rfl,G1,fun H2 s2=>?_⟩
  have S2:=S1.keep s2
  obtain⟨aj,y,e0,haj,Gy,ey⟩:=S2.last
  refine⟨_,rfl,kp,C,dx,_,_,rfl,S2.ob,cl,nS,aS_,_,rfl,aI_ S2.ls ey ⟨y.1,y.2.1,y.2.2,b,ps,ws,rfl,Gy,fun H3 s3=>⟨sz (by simp),fun t ht=>?_⟩⟩⟩
  have s4:=f_ (o:=.tup [.int (evN b ps wz),.int (evN b ps ws)]) ht
  have K3:Kp [sl] H H3:=(K1.same s2).same s3
  exact k t _ (K3.free ht (fun z=>by rw[List.mem_singleton.mp z,(S2.keep s3).ls] at ht;cases ht)) d_ (S2.keep (s3.trans s4)) (K3.same s4)
end
end Hv
namespace L2
open PySem PySem.Spec PyProof.Rows
def FlyAt(h0:Heap)(H:Hp)(h:Heap)(x:Addr)(C a0 fl:Value):Prop:=h0.get? x=none/\H x=none/\
 ∃oe vs T oT ts,h.get? x=some oe/\(oe.cls=C/\vs[0]?=some a0/\oe.dict=none)/\oe.data=.fields vs/\vs[1]?=some (.ref T)/\h0.get? T=none/\H T=none/\T≠x/\h.get? T=some oT/\oT.data=.fields ts/\ts[3]?=some fl
abbrev Fly(h0:Heap)(H:Hp)(h:Heap)(x:Addr)(C a0:Value):Prop:=FlyAt h0 H h x C a0 .none
structure Near(h0:Heap)(H:Hp)(fs:List Addr)(h h':Heap):Prop where
 keep:∀b o,h.get? b=some o->b∉fs->h0.get? b≠none\/H b≠none->h'.get? b=some o
 slot:∀b o,h.get? b=some o->b∈fs->∃sl,h'.get? b=some {o with slots:=sl}
 there:∀b o,h0.get? b≠none->h.get? b=some o->∃o',h'.get? b=some o'
theorem Near.trans{h0:Heap}{H:Hp}{fs:List Addr}{h h1 h2:Heap}(a:Near h0 H fs h h1)(b:Near h0 H fs h1 h2):Near h0 H fs h h2 :=
 ⟨fun c o e n z=>b.keep c o (a.keep c o e n z) n z,fun c o e hc=>by
  obtain⟨sl,e1⟩:=a.slot c o e hc
  obtain⟨sl2,e2⟩:=b.slot c _ e1 hc
  exact⟨sl2,e2⟩,fun c o n e=>by
  obtain⟨o1,e1⟩:=a.there c o n e
  exact b.there c o1 n e1⟩
section
variable{M:Model}{A:Around}{E:Value->Shared->Prop}{s:Shared}
theorem eo_{b0:Heap}{env:Env}{outer:List Env}{L x:Addr}{oe:Obj}{vs:Array Value}{head:Value}{had:Bool}{Q:Unit->Shared->Prop}(hfr:A.frames=some (env::outer))(hl:s.heap.FunFrames b0 (env::outer))(hf:env.frame=some L)
  (he:s.heap.get? x=some oe) (hd:oe.data=.fields vs) (hsz:1<vs.size)
  (h:∀(h':Heap) (T:Addr) (oT:Obj) (ts:Array Value),s.heap.objs.size<=T->(∀b o,s.heap.get? b=some o->b∉frs (env::outer)->b≠x->h'.get? b=some o)->(∀b o,s.heap.get? b=some o->b∈frs (env::outer)->∃sl,h'.get? b=some {o with slots:=sl})->
   h'.get? x=some (Obj.mapFields (·.setIfInBounds 1 (.ref T)) oe)->h'.get? T=some oT->oT.data=.fields ts->ts[3]?=some (rawInt L)->Q () {s with heap:=h'}) :
  wpAny M A (do let a <-frameOf env;let pl <-entryPlaceOf L had;let b <-EntryCells.newEntry head a .none (rawInt L) .none pl;setField (.ref x) 1 b) Q E s:=by
 have xf:x∉frs (env::outer):=fun hm=>by
  obtain⟨_,o,ho,hnf⟩:=hl.mem hm
  rw[he] at ho
  cases ho
  exact hnf vs hd
 refine wpAny_bind (wpAny_frameOf_fun hfr hl hf fun g ⟨gs,g1,g2⟩=>wpAny_bind (wpAny_entryPlaceOf fun pl hpl=>?_))
 unfold EntryCells.newEntry newFields
 refine wpAny_bind (wpAny_newObj_type ?_ (hpl.sizeOk5 _ _ _ _ _))
 have x1:g.get? x=some oe:=(g1 x xf).trans he
 have nT:g.objs.size≠x:=Nat.ne_of_gt (Heap.lt_size x1)
 generalize hob:({cls:=.type "traceback",data:=.fields ([head,.ref L,.none,rawInt L,.none]++(if pl.isEmpty then List.replicate 6 Value.none else pl)).toArray}:Obj)=ob
 have nf:ob.isFreed=false:=by rw[<-hob];rfl
 have x2:(g.push ob).get? x=some oe:=Heap.get?_push_of_some ob x1
 refine wpAny_setField x2 hd hsz ?_
 have dd:=Obj.data_mapFields hd (·.setIfInBounds 1 (Value.ref g.objs.size))
 have tt:((g.push ob).update x (Obj.mapFields (·.setIfInBounds 1 (Value.ref g.objs.size)))).get? g.objs.size=some ob:=(Heap.get?_update_other _ _ (Ne.symm nT)).trans (Heap.get?_push_size g nf)
 refine h _ g.objs.size ob ([head,.ref L,.none,rawInt L,.none]++(if pl.isEmpty then List.replicate 6 Value.none else pl)).toArray (by rw[gs];exact Nat.le_refl _) (fun b o e n nx=>?_) (fun b o e hb=>?_) (Heap.get?_update_self _ x2 (Obj.isFreed_of_fields dd)) tt (by rw[<-hob]) ?_
 ·exact(Heap.get?_update_other _ _ (Ne.symm nx)).trans (Heap.get?_push_of_some ob ((g1 b n).trans e))
 ·obtain⟨sl,e1⟩:=g2 b o e
  exact⟨sl,(Heap.get?_update_other _ _ (fun z:x=b=>xf (by rw[z];exact hb))).trans (Heap.get?_push_of_some ob e1)⟩
 ·first | (simp;done) | (rcases hpl with rfl | ⟨_,_,_,_,_,_,_,rfl⟩ <;> simp)
theorem iI_{h:Heap}{T:Addr}(hT:h.objs.size<=T){h0:Heap}(h0e:∀b o,h0.get? b=some o->∃o',h.get? b=some o'):h0.get? T=none:=by
 cases q:h0.get? T with
 | none=>rfl
 | some o =>
  obtain⟨o',e⟩:=h0e T o q
  exact absurd (Heap.lt_size e) (Nat.not_lt.mpr hT)
theorem iJ_{h:Heap}{T:Addr}(hT:h.objs.size<=T){H:Hp}(htr:∀b o,H b=some o->∃o',h.get? b=some o'):H T=none:=by
 cases q:H T with
 | none=>rfl
 | some o =>
  obtain⟨o',e⟩:=htr T o q
  exact absurd (Heap.lt_size e) (Nat.not_lt.mpr hT)
theorem gp_{b0 h0:Heap}{H:Hp}{env:Env}{outer:List Env}{L x:Addr}{C a0:Value}{Q:Unit->Shared->Prop}(hfr:A.frames=some (env::outer))(hl:s.heap.FunFrames b0 (env::outer))(hf:env.frame=some L)
  (fl:Fly h0 H s.heap x C a0) (h0e:∀b o,h0.get? b=some o->∃o',s.heap.get? b=some o') (htr:∀b o,H b=some o->∃o',s.heap.get? b=some o')
  (h:∀h',Near h0 H (frs (env::outer)) s.heap h'->FlyAt h0 H h' x C a0 (rawInt L)->Q () {s with heap:=h'}):wpAny M A (noteFrame (.ref x) env) Q E s:=by
 obtain⟨x0,xH,oe,vs,T,oT,ts,he,⟨c1,c2,c3⟩,hd,h1,T0,TH,Tx,hT,hdT,h3⟩:=fl
 unfold noteFrame
 simp only[hf]
 refine wpAny_bind (wpAny_field he hd h1 ?_)
 rw[if_pos (by simp)]
 refine wpAny_bind (wpAny_field hT hdT h3 ?_)
 rw[if_neg (by simp[rawInt])]
 refine wpAny_bind (wpAny_setField hT hdT (Array.getElem?_eq_some_iff.mp h3).1 ?_)
 have oth:∀b,b≠T->(s.heap.update T (Obj.mapFields (·.setIfInBounds 3 Value.none))).get? b=s.heap.get? b:=fun b hb=>Heap.get?_update_other _ _ (Ne.symm hb)
 have Tf:T∉frs (env::outer):=fun hm=>by
  obtain⟨_,o,ho,nf⟩:=hl.mem hm
  rw[hT] at ho
  cases ho
  exact nf ts hdT
 have hl2:(s.heap.update T (Obj.mapFields (·.setIfInBounds 3 Value.none))).FunFrames b0 (env::outer):=hl.of_keeps fun b o e nf=>⟨o,(oth b (fun z=>by rw[z,hT] at e;cases e;exact nf ts hdT)).trans e,rfl⟩
 refine eo_ (s:={s with heap:=s.heap.update T (Obj.mapFields (·.setIfInBounds 3 Value.none))}) hfr hl2 hf ((oth x (Ne.symm Tx)).trans he) hd (Array.getElem?_eq_some_iff.mp h1).1 fun h' T' oT' ts' z0 z1 z2 z3 z4 z5 z6=>?_
 have sT:s.heap.objs.size<=T':=by
  have z0':(s.heap.update T (Obj.mapFields (·.setIfInBounds 3 Value.none))).objs.size<=T':=z0
  rw[Heap.size_after_update] at z0'
  exact z0'
 have Tx':T'≠x:=Nat.ne_of_gt (Nat.lt_of_lt_of_le (Heap.lt_size he) sT)
 refine h h' ⟨fun b o e n z=>z1 b o ((oth b (fun q=>?_)).trans e) n (fun q=>?_),fun b o e hb=>z2 b o ((oth b (fun q=>Tf (q▸hb))).trans e) hb,fun b o n e=>?_⟩ ⟨x0,xH,_,_,T',oT',ts',z3,⟨(Obj.cls_mapFields _ _).trans c1,?_,?_⟩,Obj.data_mapFields hd _,?_,iI_ sT h0e,iJ_ sT htr,Tx',z4,z5,z6⟩
 ·subst q;rcases z with z | z
  ·exact z T0
  ·exact z TH
 ·subst q;rcases z with z | z
  ·exact z x0
  ·exact z xH
 ·by_cases hb:b∈frs (env::outer)
  ·obtain⟨sl,e1⟩:=z2 b o ((oth b (fun q=>Tf (q▸hb))).trans e) hb
   exact⟨_,e1⟩
  ·exact⟨o,z1 b o ((oth b (fun q=>n (by rw[q];exact T0))).trans e) hb (fun q=>n (by rw[q];exact x0))⟩
 ·rw[Array.getElem?_setIfInBounds_ne (by decide)];exact c2
 ·obtain⟨a,b,c,d⟩:=oe
  cases c <;> first | exact c3 | cases hd
 ·rw[Array.getElem?_setIfInBounds_self_of_lt (Array.getElem?_eq_some_iff.mp h1).1]
theorem jJ_{b0 h0:Heap}{H:Hp}{env:Env}{outer:List Env}{L x:Addr}{oe:Obj}{vs:Array Value}{a0:Value}{Q:Unit->Shared->Prop}(hfr:A.frames=some (env::outer))(hl:s.heap.FunFrames b0 (env::outer))(hf:env.frame=some L)
  (he:s.heap.get? x=some oe) (hd:oe.data=.fields vs) (hdn:oe.dict=none) (h1:vs[1]?=some .none) (hv0:vs[0]?=some a0) (x0:h0.get? x=none) (xH:H x=none) (h0e:∀b o,h0.get? b=some o->∃o',s.heap.get? b=some o')
  (htr:∀b o,H b=some o->∃o',s.heap.get? b=some o')
  (h:∀h',Near h0 H (frs (env::outer)) s.heap h'->FlyAt h0 H h' x oe.cls a0 (rawInt L)->Q () {s with heap:=h'}):wpAny M A (noteFrame (.ref x) env) Q E s:=by
 unfold noteFrame
 simp only[hf]
 refine wpAny_bind (wpAny_field he hd h1 ?_)
 rw[if_neg (by decide)]
 refine eo_ hfr hl hf he hd (Array.getElem?_eq_some_iff.mp h1).1 fun h' T' oT' ts' sT z1 z2 z3 z4 z5 z6=>?_
 have Tx':T'≠x:=Nat.ne_of_gt (Nat.lt_of_lt_of_le (Heap.lt_size he) sT)
 refine h h' ⟨fun b o e n z=>z1 b o e n (fun q=>?_),z2,fun b o n e=>?_⟩ ⟨x0,xH,_,_,T',oT',ts',z3,⟨Obj.cls_mapFields _ _,?_,?_⟩,Obj.data_mapFields hd _,?_,iI_ sT h0e,iJ_ sT htr,Tx',z4,z5,z6⟩
 ·subst q;rcases z with z | z
  ·exact z x0
  ·exact z xH
 ·by_cases hb:b∈frs (env::outer)
  ·obtain⟨sl,e1⟩:=z2 b o e hb
   exact⟨_,e1⟩
  ·exact⟨o,z1 b o e hb (fun q=>n (by rw[q];exact x0))⟩
 ·rw[Array.getElem?_setIfInBounds_ne (by decide)];exact hv0
 ·obtain⟨a,b,c,d⟩:=oe
  cases c <;> first | exact hdn | cases hd
 ·rw[Array.getElem?_setIfInBounds_self_of_lt (Array.getElem?_eq_some_iff.mp h1).1]
theorem cq_{b0 h0:Heap}{H:Hp}{l:List Env}{x:Addr}{C a0 fl:Value}{Q:Unit->Shared->Prop}(hl:s.heap.FunFrames b0 l)(f:FlyAt h0 H s.heap x C a0 fl)
  (h0e:∀b o,h0.get? b=some o->∃o',s.heap.get? b=some o') (htr:∀b o,H b=some o->∃o',s.heap.get? b=some o')
  (h:∀h',Near h0 H (frs l) s.heap h'->Fly h0 H h' x C a0->Q () {s with heap:=h'}):wpAny M A (setFlight (.ref x) none) Q E s:=by
 obtain⟨x0,xH,oe,vs,T,oT,ts,he,hc,hd,h1,T0,TH,Tx,hT,hdT,h3⟩:=f
 have sz3:3<ts.size:=(Array.getElem?_eq_some_iff.mp h3).1
 unfold setFlight
 refine wpAny_bind (wpAny_field he hd h1 ?_)
 rw[if_pos (by simp)]
 refine wpAny_setField hT hdT sz3 ?_
 have oth:∀b,b≠T->(s.heap.update T (Obj.mapFields (·.setIfInBounds 3 ((none:Option Addr).elim Value.none fun f=>rawInt f)))).get? b=s.heap.get? b:=fun b hb=>Heap.get?_update_other _ _ (Ne.symm hb)
 have Tf:T∉frs l:=fun hm=>by
  obtain⟨_,o,ho,nf⟩:=hl.mem hm
  rw[hT] at ho
  cases ho
  exact nf ts hdT
 have tt:=Heap.get?_update_self (Obj.mapFields (·.setIfInBounds 3 ((none:Option Addr).elim Value.none fun f=>rawInt f))) hT (Obj.isFreed_of_fields (Obj.data_mapFields hdT _))
 refine h _ ⟨fun b o e n z=>(oth b (fun q=>?_)).trans e,fun b o e hb=>⟨o.slots,(oth b (fun q=>Tf (q▸hb))).trans e⟩,fun b o n e=>⟨o,(oth b (fun q=>n (by rw[q];exact T0))).trans e⟩⟩ ⟨x0,xH,oe,vs,T,_,_,(oth x (Ne.symm Tx)).trans he,hc,hd,h1,T0,TH,Tx,tt,Obj.data_mapFields hdT _,?_⟩
 ·subst q;rcases z with z | z
  ·exact z T0
  ·exact z TH
 ·rw[Array.getElem?_setIfInBounds_self_of_lt sz3];rfl
theorem bY_{h h' b0:Heap}:∀ {l:List Env},h.FunFrames b0 l->(∀b o,h.get? b=some o->b∈frs l->∃sl,h'.get? b=some {o with slots:=sl})->h'.FunFrames b0 l
 | [],_,_=>trivial
 | env::l,⟨kk,⟨L,o,hf,hn,ho,hd⟩,r⟩,hs=>by
  have e:frs (env::l)=L::frs l:=by rw[frs,List.filterMap_cons,hf];rfl
  rw[e] at hs
  obtain⟨sl,e1⟩:=hs L o ho (by simp)
  exact⟨kk,⟨L,_,hf,hn,e1,hd⟩,bY_ r fun b o' eb hb=>hs b o' eb (by simp[hb])⟩
theorem jO_{P:Program}{w:World}{b0 h0:Heap}{H:Hp}{env:Env}{outer:List Env}{L x:Addr}{C a0:Value}{Q:Unit->Shared->Prop}(hfr:A.frames=some (env::outer))(hl:s.heap.FunFrames b0 (env::outer))(hf:env.frame=some L)
  (fl:Fly h0 H s.heap x C a0) (h0e:∀b o,h0.get? b=some o->∃o',s.heap.get? b=some o') (hok:HOk P w H s.heap) (hfn:∀b∈frs (env::outer),H b=none) (htr:∀b o,H b=some o->∃o',s.heap.get? b=some o')
  (h:∀h',Near h0 H (frs (env::outer)) s.heap h'->Fly h0 H h' x C a0->Q () {s with heap:=h'}):wpAny M A (leaving env (.ref x)) Q E s:=by
 unfold leaving
 refine wpAny_bind (gp_ hfr hl hf fl h0e htr fun h2 nr fa=>?_)
 refine cq_ (l:=env::outer) (bY_ hl nr.slot) fa (fun b o e=>?_) (fun b o e=>?_) fun h3 nr3 fl3=>h h3 (nr.trans nr3) fl3
 ·obtain⟨o1,e1⟩:=h0e b o e
  exact nr.there b o1 (by rw[e];exact fun z=>by cases z) e1
 ·obtain⟨o1,e1⟩:=htr b o e
  exact⟨o1,nr.keep b o1 e1 (fun z=>by rw[hfn b z] at e;cases e) (.inr (by rw[e];exact fun z=>by cases z))⟩
theorem hE_{b0 h0:Heap}{H:Hp}{env:Env}{outer:List Env}{L x:Addr}{oe:Obj}{vs:Array Value}{a0:Value}{Q:Unit->Shared->Prop}(hfr:A.frames=some (env::outer))(hl:s.heap.FunFrames b0 (env::outer))(hf:env.frame=some L)
  (he:s.heap.get? x=some oe) (hd:oe.data=.fields vs) (hdn:oe.dict=none) (h1:vs[1]?=some .none) (hv0:vs[0]?=some a0) (x0:h0.get? x=none) (xH:H x=none) (h0e:∀b o,h0.get? b=some o->∃o',s.heap.get? b=some o')
  (hfn:∀b∈frs (env::outer),H b=none) (htr:∀b o,H b=some o->∃o',s.heap.get? b=some o')
  (h:∀h',Near h0 H (frs (env::outer)) s.heap h'->Fly h0 H h' x oe.cls a0->Q () {s with heap:=h'}):wpAny M A (leaving env (.ref x)) Q E s:=by
 unfold leaving
 refine wpAny_bind (jJ_ hfr hl hf he hd hdn h1 hv0 x0 xH h0e htr fun h2 nr fa=>?_)
 refine cq_ (l:=env::outer) (bY_ hl nr.slot) fa (fun b o e=>?_) (fun b o e=>?_) fun h3 nr3 fl3=>h h3 (nr.trans nr3) fl3
 ·obtain⟨o1,e1⟩:=h0e b o e
  exact nr.there b o1 (by rw[e];exact fun z=>by cases z) e1
 ·obtain⟨o1,e1⟩:=htr b o e
  exact⟨o1,nr.keep b o1 e1 (fun z=>by rw[hfn b z] at e;cases e) (.inr (by rw[e];exact fun z=>by cases z))⟩
end
theorem ObjOk.there{P:Program}{w:World}{H:Hp}{h:Heap}{a:Addr}{o:HO}(x:ObjOk P w H h a o):∃u,h.get? a=some u:=by
 cases o with
 | lst xs=>obtain⟨_,_,_,_,e⟩:=x;exact⟨_,e⟩
 | tup xs=>obtain⟨_,_,_,ob,e,_⟩:=x;exact⟨_,e⟩
 | dK kvs=>obtain⟨_,_,_,_,ob,_,_,e,_⟩:=x;exact⟨_,e⟩
 | dT kvs=>obtain⟨_,_,_,_,ob,_,_,e,_⟩:=x;exact⟨_,e⟩
 | set S n=>obtain⟨ob,_,_,_,e,_⟩:=x;exact⟨_,e⟩
 | ins C dx fs=>obtain⟨_,_,_,e,_⟩:=x;exact⟨_,e⟩
 | own y=>obtain⟨ob,e⟩:=x;exact⟨_,e⟩
 | xd fs=>obtain⟨_,⟨od,_,_,e,_⟩,_⟩:=x;exact⟨_,e⟩
 | rng lo hi=>obtain⟨_,_,_,e⟩:=x;exact⟨_,e⟩
 | frz ob u=>exact⟨_,x.1⟩
 | tbl ps=>exact⟨_,x⟩
 | met f y=>exact⟨_,x⟩
 | ext φ=>obtain⟨_,⟨o,e⟩,_⟩:=x;exact⟨_,e⟩
def CX1(P:Program)(w:World):CXT:=fun outer H s E e s'=>∃(x C:Addr) (a0:Value) (H':Hp),e=.ref x/\s'.os=s.os/\AllBare s'.gens/\Un (frs outer) [] H H' s.heap s'.heap/\HOk P w H' s'.heap/\Fly s.heap H' s'.heap x (.ref C) a0/\E (.ref C) none H'
section
variable{P:Program}{w:World}{K:PySem.W.Frag}{mg:Str->Option Value}{base:Heap}{N:List Str}{qual:Str}{scope:Scope}{f:Addr}{cd:Value}{A:Around}{outer:List Env}{s:Shared}{H:Hp}{E:XK}
theorem rf_{pins:List (Addr×Obj)}{σ:St}{H':Hp}{s':Shared}{x C:Addr}{a0:Value}(I:Inv (cxOf (CX1 P w) P w K mg base N qual scope f cd A outer s H E) pins σ H' s')(fly:Fly s.heap H' s'.heap x (.ref C) a0)(hE:E (.ref C) none H') :
  (cxOf (CX1 P w) P w K mg base N qual scope f cd A outer s H E).xe (.ref x) s':=by
 have nex:∀b:Addr,b∉(cxOf (CX1 P w) P w K mg base N qual scope f cd A outer s H E).ex:=fun b z=>absurd (show b∈([]:List Addr) from z) (by simp)
 have fsE:frs (cxOf (CX1 P w) P w K mg base N qual scope f cd A outer s H E).stack=s.heap.objs.size::frs outer:=rfl
 refine jO_ (P:=P) (w:=w) (b0:=base) (h0:=s.heap) (H:=H') I.ok.frames I.stack rfl fly (fun b o e=>I.base.there b o e (nex b)) I.hok I.stkFree (fun b o e=>(I.hok b o e).there) fun h'' ⟨k1,k2,k3⟩ fly2=>?_
 have old:∀b o,s.heap.get? b=some o->b≠s.heap.objs.size:=fun b o e=>Nat.ne_of_lt (Heap.lt_size e)
 have off:∀b o,s.heap.get? b=some o->b∉frs outer->b∉frs (cxOf (CX1 P w) P w K mg base N qual scope f cd A outer s H E).stack:=fun b o e n z=>by
  rw[fsE] at z
  rcases List.mem_cons.mp z with z | z
  ·exact old b o e z
  ·exact n z
 refine⟨x,C,a0,H',rfl,I.os,I.bare,⟨fun b o e n nb _=>?_,fun b o e n hb _=>?_,fun b o e n _=>I.base.free b o e n (nex b),fun b o e _=>?_,I.base.tups,I.base.frzs,I.base.tbls⟩,fun b o e=>?_,fly2,hE⟩
 ·exact k1 b o (I.base.keep b o e n nb (nex b)) (off b o e nb) (.inl (by rw[e];exact fun z=>by cases z))
 ·obtain⟨sl,e1⟩:=I.base.slot b o e n hb (nex b)
  obtain⟨sl2,e2⟩:=k2 b _ e1 (show b∈s.heap.objs.size::frs outer from List.mem_cons_of_mem _ hb)
  exact⟨sl2,e2⟩
 ·obtain⟨o',e1⟩:=I.base.there b o e (nex b)
  exact k3 b o' (by rw[e];exact fun z=>by cases z) e1
 ·refine(I.hok b o e).stay (fun c u hc q=>?_) (fun _ q=>q) fun _ _ q=>q
  have hcn:H' c≠none:=by
   rcases hc with hc | hc
   ·rw[hc,e];exact fun z=>by cases z
   ·rw[hc];exact fun z=>by cases z
  exact k1 c u q (fun z=>hcn (I.stkFree c z)) (.inr hcn)
theorem passes1:Passes (CX1 P w) (cxOf (CX1 P w) P w K mg base N qual scope f cd A outer s H E) E:=fun pins σ H1 s1 e s' I ⟨x,C,a0,H',he,os,bare,un,hok,fly,hE⟩=>by
 subst he
 have I':=I.call' os un hok bare (fun b z=>absurd z (by simp))
 have nex:∀b:Addr,b∉(cxOf (CX1 P w) P w K mg base N qual scope f cd A outer s H E).ex:=fun b z=>absurd (show b∈([]:List Addr) from z) (by simp)
 have older:∀b,s1.heap.get? b=none->s.heap.get? b=none:=fun b z=>by
  cases q:s.heap.get? b with
  | none=>rfl
  | some o =>
   obtain⟨o',e1⟩:=I.base.there b o q (nex b)
   rw[z] at e1;cases e1
 obtain⟨x0,xH,oe,vs,T,oT,ts,he,hc,hd,h1,T0,TH,r⟩:=fly
 exact rf_ I' ⟨older _ x0,xH,oe,vs,T,oT,ts,he,hc,hd,h1,older _ T0,TH,r⟩ hE
end
section
variable{P:Program}{w:World}{K:PySem.W.Frag}{mg:Str->Option Value}{base:Heap}{N:List Str}{qual:Str}{scope:Scope}{f:Addr}{cd:Value}{A:Around}{outer:List Env}{s:Shared}{H:Hp}{E:XK}
theorem pv_{pins:List (Addr×Obj)}{σ:St}{H1:Hp}{s1:Shared}{x C:Addr}{vs:List Value}{h':Heap}(I0:Inv (cxOf (CX1 P w) P w K mg base N qual scope f cd A outer s H E) pins σ H1 s1)(hx:Heap.MadeExcOf s1.heap h' x (.ref C) vs)(hE:E (.ref C) none H1) :
  (cxOf (CX1 P w) P w K mg base N qual scope f cd A outer s H E).xe (.ref x) {s1 with heap:=h'}:=by
 have nex:∀b:Addr,b∉(cxOf (CX1 P w) P w K mg base N qual scope f cd A outer s H E).ex:=fun b z=>absurd (show b∈([]:List Addr) from z) (by simp)
 have fsE:frs (cxOf (CX1 P w) P w K mg base N qual scope f cd A outer s H E).stack=s.heap.objs.size::frs outer:=rfl
 have I:Inv (cxOf (CX1 P w) P w K mg base N qual scope f cd A outer s H E) pins σ H1 {s1 with heap:=h'}:=I0.kept (t':=s1.toks) (h':=h') hx.keeps
 obtain⟨t,he,_,_⟩:=hx.there
 have x0:s.heap.get? x=none:=by
  cases q:s.heap.get? x with
  | none=>rfl
  | some o =>
   obtain⟨o',e1⟩:=I0.base.there x o q (nex x)
   rw[hx.new] at e1;cases e1
 have xH:H1 x=none:=by
  cases q:H1 x with
  | none=>rfl
  | some o =>
   obtain⟨o',e1⟩:=(I0.hok x o q).there
   rw[hx.new] at e1;cases e1
 refine hE_ (b0:=base) (h0:=s.heap) (H:=H1) I.ok.frames I.stack rfl he rfl rfl rfl rfl x0 xH (fun b o e=>I.base.there b o e (nex b)) I.stkFree (fun b o e=>(I.hok b o e).there) fun h'' ⟨k1,k2,k3⟩ fly2=>?_
 have old:∀b o,s.heap.get? b=some o->b≠s.heap.objs.size:=fun b o e=>Nat.ne_of_lt (Heap.lt_size e)
 have off:∀b o,s.heap.get? b=some o->b∉frs outer->b∉frs (cxOf (CX1 P w) P w K mg base N qual scope f cd A outer s H E).stack:=fun b o e n z=>by
  rw[fsE] at z
  rcases List.mem_cons.mp z with z | z
  ·exact old b o e z
  ·exact n z
 refine⟨x,C,_,H1,rfl,I.os,I.bare,⟨fun b o e n nb _=>?_,fun b o e n hb _=>?_,fun b o e n _=>I.base.free b o e n (nex b),fun b o e _=>?_,I.base.tups,I.base.frzs,I.base.tbls⟩,fun b o e=>?_,fly2,hE⟩
 ·exact k1 b o (I.base.keep b o e n nb (nex b)) (off b o e nb) (.inl (by rw[e];exact fun z=>by cases z))
 ·obtain⟨sl,e1⟩:=I.base.slot b o e n hb (nex b)
  obtain⟨sl2,e2⟩:=k2 b _ e1 (show b∈s.heap.objs.size::frs outer from List.mem_cons_of_mem _ hb)
  exact⟨sl2,e2⟩
 ·obtain⟨o',e1⟩:=I.base.there b o e (nex b)
  exact k3 b o' (by rw[e];exact fun z=>by cases z) e1
 ·refine(I.hok b o e).stay (fun c u hc q=>?_) (fun _ q=>q) fun _ _ q=>q
  have hcn:H1 c≠none:=by
   rcases hc with hc | hc
   ·rw[hc,e];exact fun z=>by cases z
   ·rw[hc];exact fun z=>by cases z
  exact k1 c u q (fun z=>hcn (I.stkFree c z)) (.inr hcn)
structure OwnE(base:Heap)(C:Addr)(newId initId B:String)(bmB:List Value):Prop where
 fb:ExcBaseFacts B newId initId bmB
 ob:∃bm N nm q bs hdct sn sub ab col dd k0 k1 k2 k3 k5 mN,base.get? C=some (excClassObj nm q C N bs bm hdct sn sub ab col dd k0 k1 k2 k3 k5 newId)/\base.Ns N mN/\mN "__init__"=none/\OwnTail base bmB bm
def qi_(E:XK)(C:Addr)(te:TE):TS:=fun _ σ H=>te σ H fun _ H1=>E (.ref C) none H1
theorem eU_{x:Str}{C:Addr}{newId initId B:String}{bmB:List Value}{e:Expr}{te:TE}{np cpos pos:Pos}(O:OwnE base C newId initId B bmB)(hg:Gl (cxOf (CX1 P w) P w K mg base N qual scope f cd A outer s H E) x)(hm:mg x=some (.ref C))
  (he:PE (cxOf (CX1 P w) P w K mg base N qual scope f cd A outer s H E) e te) (hd:(x==("__debug__":Str))=false:=by decide)
  (hs:starEach [e] (cxOf (CX1 P w) P w K mg base N qual scope f cd A outer s H E).env=[(false,eval e (cxOf (CX1 P w) P w K mg base N qual scope f cd A outer s H E).env)]:=by rfl) :
  PS (cxOf (CX1 P w) P w K mg base N qual scope f cd A outer s H E) (.Raise (some (.Call (.Name x np) [e] [] cpos)) none pos) (qi_ E C te):=by
 intro pins s1 σ H1 D I h
 obtain⟨bm,Nc,nm,q,bs,hdct,sn,sub,ab,col,dd,k0,k1,k2,k3,k5,mN,hC,hN,hni,T⟩:=O.ob
 refine wpAny_Raise_call_subT (C:=C) (nm:=nm) (q:=q) (N:=Nc) (bs:=bs) (bm:=bm) (hdct:=hdct) (sn:=sn) (sub:=sub) (ab:=ab) (col:=col) (dd:=dd) (k0:=k0) (k1:=k1) (k2:=k2) (k3:=k3) (k5:=k5) O.fb (mN:=mN) (T.hasType O.fb.hasBase) (I.ok.hd rfl) (by rw[hs];rfl) hni ?_
 refine dJ_ I hg hm ⟨rfl,?_⟩ hd
 rw[hs]
 refine Calls.evalArgs_plain (Calls.spliced_cons (thn (he pins s1 σ H1 _ I h) fun v s2 ⟨y,H2,I2,ry,q2⟩=>Calls.spliced_nil ?_))
 exact⟨rfl,Nat.le_trans (show 1<=1000 by decide) (by decide),I2.bk _ _ hC,hN.keeps I2.bk,T.keeps I2.bk,fun h' e hx=>pv_ I2 hx q2⟩
end
section
variable{P:Program}{w:World}{K:PySem.W.Frag}{mg:Str->Option Value}{base:Heap}
theorem Fun.ok1{x qual:Str}{st:Stmt}{f:Addr}{fd:FuncData}{N ps:List Str}{k:Nat}{sp:Sp}(F:Fun K x qual st f fd)(S:FnScope N ps (g_ st))(len:∀vs H Q E,sp vs H Q E->vs.length=ps.length)
  (hbody:∀(cdv:Value) (A:Around) (outer:List Env) (s:Shared) (H:Hp) (vs:List V) (Q:VK) (E:XK),Room k (A.deeper (envOfC qual (g_ st) s.heap.objs.size f cdv))->sp vs H Q E->
   ∃t,PSs (cxOf (CX1 P w) P w K mg base N qual (g_ st) f cdv A outer s H E) (v_ st) t/\t {nx:=fun _ H'=>Q .non H',rt:=Q} (start N vs) H):FnOk P w K mg base (CX1 P w) (k+1) f fd ps sp:=by
 obtain⟨oc,od,kV,doc,pm,an,cdv,ct,osl,rfl,lk,hcd⟩:=F.ex
 exact re_ lk hcd S len fun A outer s H vs Q E hr hsp=>hbody cdv A outer s H vs Q E hr hsp
theorem FnOk.up{k:Nat}{f:Addr}{fd:FuncData}{ps:List Str}{sp:Sp}(F:FnOk P w K mg base CX0 k f fd ps sp):FnOk P w K mg base (CX1 P w) k f fd ps sp :=
 ⟨F.len,fun A outer s H args us vs Q E hr he hb hv hs=>codeAny_mono (F.run A outer s H args us vs Q E hr he hb hv hs) fun r s' hq=>by
  cases r with
  | error e=>exact False.elim hq
  | ok fl=>cases fl <;> exact hq⟩
theorem pF_{C:Addr}{newId:String}{bmB:List Value}(X:K.In base)(q:PySem.W.excIn K C bmB newId=true):∃(nm qn:Str) (N:Addr) (bs bm:List Value) (hdct:Bool) (sn:List Str) (sub:List Value) (ab:Bool) (col:Option Bool) (dd:Option Addr) (k0 k1 k2 k3 k5:Option Value) (cd:ClassData),
  base.get? C=some (excClassObj nm qn C N bs bm hdct sn sub ab col dd k0 k1 k2 k3 k5 newId)/\PySem.W.clsIn K C=some cd/\cd.mro=.ref C::bm/\PySem.W.nsOkIn K N=true/\PySem.W.nsIn K N "__init__"=some none/\PySem.W.tailIn K bmB bm=true:=by
 unfold PySem.W.excIn at q
 split at q
 ·rename_i odict cl sl look
  split at q
  ·rename_i C' bm k0 k1 k2 k3 n k5 hm hs
   simp only[beq_iff_eq,Bool.and_eq_true,Bool.not_eq_true'] at q
   have ⟨⟨⟨⟨⟨eC,eN⟩,noDel⟩,ht⟩,hok⟩,hni⟩:=q
   subst eC eN
   cases cl with
   | mk nm bs mro ns qn hd sn sub ab col del =>
   have em:mro=.ref C'::bm:=hm
   have ed:del=false:=noDel
   subst em ed
   have hsl:sl=#[k0,k1,k2,k3,some (.builtin n),k5]:=by
    cases sl with
    | mk l=>exact congrArg Array.mk hs
   subst hsl
   have ec:PySem.W.clsIn K C'=some ⟨nm,bs,.ref C'::bm,ns,qn,hd,sn,sub,ab,col,false⟩:=by
    unfold PySem.W.clsIn
    rw[look]
   exact⟨nm,qn,ns,bs,bm,hd,sn,sub,ab,col,odict,k0,k1,k2,k3,k5,⟨nm,bs,.ref C'::bm,ns,qn,hd,sn,sub,ab,col,false⟩,X _ _ look,ec,rfl,hok,hni,ht⟩
  ·cases q
 ·cases q
theorem qz_{C:Addr}{newId initId B:String}{bmB:List Value}(fb:ExcBaseFacts B newId initId bmB)(X:K.In base)(q:PySem.W.excIn K C bmB newId=true):OwnE base C newId initId B bmB:=by
 obtain⟨nm,qn,ns,bs,bm,hd,sn,sub,ab,col,odict,k0,k1,k2,k3,k5,cd,a1,_,_,hok,hni,ht⟩:=pF_ X q
 exact⟨fb,bm,ns,nm,qn,bs,hd,sn,sub,ab,col,odict,k0,k1,k2,k3,k5,base.nsMap ns,a1,.of_isNs (PySem.W.isNs_of_in X hok),PySem.W.nsMap_none_of_in X hok hni,PySem.W.tail_of_in X ht⟩
end
def XP(X:Cx)(pins:List (Addr×Obj))(R:St->Addr->Hp->Prop)(e:Value)(s':Shared):Prop :=
 ∃(x C:Addr) (a0:Value) (σ:St) (H1 H':Hp) (s1:Shared),e=.ref x/\Inv X pins σ H1 s1/\s'.os=s1.os/\AllBare s'.gens/\Un (frs X.stack) [] H1 H' s1.heap s'.heap/\HOk X.prog X.w H' s'.heap/\Fly s1.heap H' s'.heap x (.ref C) a0/\R σ C H'
abbrev TX:=Ends->(St->Addr->Hp->Prop)->St->Hp->Prop
def PX(X:Cx)(st:Stmt)(t:TX):Prop :=
 ∀(pins:List (Addr×Obj)) (s:Shared) (σ:St) (H:Hp) (D:Ends) (R:St->Addr->Hp->Prop),Inv X pins σ H s->t D R σ H->wpAny (model X.prog X.w) X.A (exec st X.env) (SP X pins D) (XP X pins R) s
def PXs(X:Cx)(st:List Stmt)(t:TX):Prop :=
 ∀(pins:List (Addr×Obj)) (s:Shared) (σ:St) (H:Hp) (D:Ends) (R:St->Addr->Hp->Prop),Inv X pins σ H s->t D R σ H->wpAny (model X.prog X.w) X.A (execs st X.env) (SP X pins D) (XP X pins R) s
section
variable{X:Cx}{k:Nat}{f:Addr}{fd:FuncData}{ps:List Str}{sp:Sp}{x:Str}{p pos epos:Pos}{e:Expr}{es:List Expr}{t:TA}
def xIf(tc:TT)(t u:TX):TX:=fun D R σ H=>tc σ H fun c H1=>if c=true then t D R σ H1 else u D R σ H1
theorem rt_{c:Expr}{a b:List Stmt}{tc:TT}{ta tb:TX}(hc:PT X.nox c tc)(ha:PXs X a ta)(hb:PXs X b tb):PX X (.If c a b pos) (xIf tc ta tb):=by
 intro pins s σ H D R I h
 have hT:wpAny (model X.prog X.w) X.A (isTrue c X.env (eval c X.env)) (TP X pins σ fun d H1=>if d=true then ta D R σ H1 else tb D R σ H1) (XP X pins R) s :=
  wpAny_mono (hc pins s σ H _ (I.wish _) h) (fun d s1 ⟨H1,I1,q⟩=>⟨H1,I1.unwish,q⟩) fun _ _ z=>False.elim z
 refine wpAny_If (thn hT fun d s1 ⟨H1,I1,q1⟩=>?_)
 cases d with
 | true=>exact ha pins s1 σ H1 D R I1 q1
 | false=>exact hb pins s1 σ H1 D R I1 q1
theorem hh_{st:Stmt}{tx:TX}(h:PX X st tx):PXs X [st] tx:=fun pins s σ H D R I hw=>by
 refine wpAny_execs_cons (thn (h pins s σ H D R I hw) fun fl s1 q=>?_)
 cases fl with
 | next=>exact wpAny_execs_nil q
 | brk=>exact q
 | cont=>exact q
 | ret u=>exact q
end
section
variable{X:Cx}{pins:List (Addr×Obj)}{σ:St}{H1 H':Hp}{s1:Shared}{h h2:Heap}
theorem hz_(un:Un (frs X.stack) [] H1 H' s1.heap h)(nr:Near s1.heap H' (frs X.stack) h h2):Un (frs X.stack) [] H1 H' s1.heap h2 :=
 ⟨fun b o e n nb nx=>nr.keep b o (un.keep b o e n nb nx) nb (.inl (by rw[e];exact fun z=>by cases z)),
  fun b o e n hb nx=>by
   obtain⟨sl,e1⟩:=un.slot b o e n hb nx
   obtain⟨sl2,e2⟩:=nr.slot b _ e1 hb
   exact⟨sl2,e2⟩,
  un.free,fun b o e nx=>by
   obtain⟨o',e1⟩:=un.there b o e nx
   exact nr.there b o' (by rw[e];exact fun z=>by cases z) e1,un.tups,un.frzs,un.tbls⟩
theorem fh_{P:Program}{w:World}{h0:Heap}{fs:List Addr}(hok:HOk P w H' h)(nr:Near h0 H' fs h h2)(hfs:∀b∈fs,H' b=none):HOk P w H' h2:=fun b o e=>by
 refine(hok b o e).stay (fun c u hc q=>?_) (fun _ q=>q) fun _ _ q=>q
 have hcn:H' c≠none:=by
  rcases hc with hc | hc
  ·rw[hc,e];exact fun z=>by cases z
  ·rw[hc];exact fun z=>by cases z
 exact nr.keep c u q (fun z=>hcn (hfs c z)) (.inr hcn)
end
section
variable{X:Cx}{pins:List (Addr×Obj)}{σ:St}{H:Hp}{s:Shared}
theorem ke_{M:Model}{A:Around}{E:Value->Shared->Prop}{i:Nat}{x:Str}{v:V}{Q:Unit->Shared->Prop}(I:Inv X pins σ H s)(hN:X.N.Nodup)(hi:X.N[i]?=some x)(hk:X.env.scope.names.lookup x=some .local)(hv:σ[i]?=some (some v))(hvis:Vis X.env.scope x)
  (hko:X.env.kindOf x=some .local) (h:∀s',Inv X pins (σ.set i none) H s'->Q () s'):wpAny M A (unbindName X.env x) Q E s:=by
 obtain⟨m,hn,hl⟩:=id I.loc
 have hcls:(X.env.scope.kind==.class || (X.env.scope.kind==.module&&X.env.locals != X.env.globals))=false:=by rw[I.ok.kind];rfl
 have hiσ:i<σ.length:=by rw[I.len];exact(List.getElem?_eq_some_iff.mp hi).1
 have cne:=I.cne
 obtain⟨u0,r0,lk⟩:=hl i x v hi hv hvis
 have hm:m x=some u0:=by
  rcases lk with⟨_,e⟩ | ⟨k,_⟩
  ·exact e
  ·rcases k with k | k
   ·rw[hko] at k;cases k
   ·rw[hko] at k;cases k
 refine wpAny_unbindName_local hko hn hm hcls fun h' u hn' hs=>?_
 obtain⟨oL,_,_,hoL,_⟩:=id hn
 have far:∀b o,X.s₀.heap.get? b=some o->b≠X.env.locals:=fun b o e=>Nat.ne_of_lt (Nat.lt_of_lt_of_le (Heap.lt_size e) I.ok.above)
 refine h _ ⟨I.ok,I.os,I.bare,⟨fun b o e n hb hx=>(hs.2 b (far b o e)).trans (I.base.keep b o e n hb hx),fun b o e n hb hx=>?_,I.base.free,fun b o e hx=>?_,I.base.tups,I.base.frzs,I.base.tbls⟩,⟨_,hn',fun j y v' e1 e2 e3=>?_⟩,fun y c e=>?_,I.free,I.freeC,fun p hp=>?_,fun b ob e=>?_,by simpa using I.len⟩
 ·obtain⟨sl,e1⟩:=I.base.slot b o e n hb hx
  exact⟨sl,(hs.2 b (far b o e)).trans e1⟩
 ·obtain⟨o',e1⟩:=I.base.there b o e hx
  exact⟨o',(hs.2 b (far b o e)).trans e1⟩
 ·by_cases hj:j=i
  ·subst hj
   rw[List.getElem?_set_self hiσ] at e2
   cases e2
  ·rw[List.getElem?_set_ne (Ne.symm hj)] at e2
   obtain⟨u',r',q⟩:=hl j y v' e1 e2 e3
   refine⟨u',r',?_⟩
   rcases q with⟨k,e⟩ | ⟨k,c,e,z⟩
   ·have ny:y≠x:=fun e=>hj (ff_ hN e1 (e▸hi))
    exact .inl ⟨k,by show(if y=x then u else m y)=some u';rw[if_neg ny];exact e⟩
   ·exact .inr ⟨k,c,e,z.sameBut hs (cne y c e)⟩
 ·obtain⟨w',z⟩:=I.cell y c e
  exact⟨w',z.sameBut hs (cne y c e)⟩
 ·obtain⟨e,n,ne,nf,d⟩:=I.pin p hp
  exact⟨(hs.2 p.1 ne).trans e,n,ne,nf,d⟩
 ·refine(I.hok b ob e).stay (fun c w' hc q=>(hs.2 c fun z=>?_).trans q) (fun _ q=>q) fun _ _ q=>q
  have hf:=I.free
  rw[<-z] at hf
  rcases hc with hc | hc
  ·rw[<-hc,hf] at e;cases e
  ·rw[hf] at hc;cases hc
end
section
variable{M:Model}{A:Around}{E:Value->Shared->Prop}
def Up(K:PySem.W.Frag)(C B:Addr):Prop:=PySem.W.mroIn K C (.ref B)=some true/\PySem.W.mroIn K B (.type "BaseException")=some true/\PySem.W.typeIn K (.ref B)=some (.type "type")
theorem jF_{K:PySem.W.Frag}{h:Heap}{g:Array GenState}{d:Drawn}{t:Nat}{os:OsState}{e C B:Addr}{oe:Obj}{Q:Bool->Shared->Prop}(X:K.In h)(u:Up K C B)(he:h.get? e=some oe)(hcls:oe.cls=.ref C)(hq:Q true ⟨h,g,d,t,os⟩):wpAny M A (excMatches (.ref e) (.ref B)) Q E ⟨h,g,d,t,os⟩:=by
 have L1:=PySem.W.looks_mroIn (M:=M) X u.1
 have L2:=PySem.W.looks_mroIn (M:=M) X u.2.1
 obtain⟨od,cd,sl,hB⟩:∃od cd sl,h.get? B=some ⟨.type "type",od,.cls cd,sl⟩:=by
  have z:=u.2.1
  have y:=u.2.2
  unfold PySem.W.mroIn PySem.W.clsIn at z
  split at z
  ·rename_i look
   unfold PySem.W.typeIn at y
   simp only[look] at y
   cases y
   exact⟨_,_,_,X _ _ look⟩
  ·cases z
 have f:=tc_notTuple
 unfold excMatches
 repeat (first | (with_reducible refine wpAny_loadPart_at he ?_;rw[hcls]) | with_reducible refine wpAny_loadPart_at hB ?_ | with_reducible refine L2.at ?_ | with_reducible refine L1.at ?_ | wp_step)
 exact hq
end
abbrev Cx.marked(X:Cx)(v:Option Value):Cx:={X with A:=X.A.mark v,calm:=false}
section
variable{X:Cx}{pins:List (Addr×Obj)}{σ:St}{H:Hp}{s:Shared}{v:Option Value}
theorem Inv.mark(I:Inv X pins σ H s)(v:Option Value):Inv (X.marked v) pins σ H s :=
 ⟨⟨I.ok.mod,I.ok.kind,I.ok.glob,I.ok.blt,I.ok.above,I.ok.inj,I.ok.has,I.ok.cab,(fun z=>by cases z),I.ok.frames,I.ok.stk,I.ok.exf,I.ok.bs,I.ok.bsz,I.ok.noex,I.ok.exfs,I.ok.funs,I.ok.frf⟩,I.os,I.bare,I.base,I.loc,I.cell,I.free,I.freeC,I.pin,I.hok,I.len⟩
theorem Inv.unmark(ok:X.Ok)(I:Inv (X.marked v) pins σ H s):Inv X pins σ H s:=⟨ok,I.os,I.bare,I.base,I.loc,I.cell,I.free,I.freeC,I.pin,I.hok,I.len⟩
def excO(x C:Addr):HO:=.ext fun h=>∃o,h.get? x=some o/\o.cls=.ref C/\o.dict=none/\∃vs,o.data=.fields vs
theorem lC_{x:Addr}{o:HO}(I:Inv X pins σ H s)(hx:H x=none)(x0:X.s₀.heap.get? x=none)(xl:x≠X.env.locals)(xc:∀y c,X.env.cells.lookup y=some c->c≠x)(xp:∀p∈X.pn++pins,p.1≠x)(ok:ObjOk X.prog X.w (upd H x o) s.heap x o):Inv X pins σ (upd H x o) s:=by
 have ne:∀b u,H b=some u->b≠x:=fun b u e z=>by rw[z,hx] at e;cases e
 have n0:∀b u,X.s₀.heap.get? b=some u->b≠x:=fun b u e z=>by rw[z,x0] at e;cases e
 refine⟨I.ok,I.os,I.bare,⟨I.base.keep,I.base.slot,fun b u e n hx'=>?_,I.base.there,fun b xs e=>?_,fun b u xs e=>?_,fun b ps e=>?_⟩,I.loc,I.cell,by rw[i_ xl.symm];exact I.free,fun y c e=>by rw[i_ (xc y c e)];exact I.freeC y c e,fun p hp=>?_,fun b u e=>?_,I.len⟩
 ·rw[i_ (n0 b u e)];exact I.base.free b u e n hx'
 ·have e1:=I.base.tups b xs e
  rw[i_ (ne b _ e1)];exact e1
 ·have e1:=I.base.frzs b u xs e
  rw[i_ (ne b _ e1)];exact e1
 ·obtain⟨more,e1⟩:=I.base.tbls b ps e
  exact⟨more,by rw[i_ (ne b _ e1)];exact e1⟩
 ·obtain⟨a1,a2,a3,a4,a5⟩:=I.pin p hp
  exact⟨a1,by rw[i_ (xp p hp)];exact a2,a3,a4,a5⟩
 ·by_cases z:b=x
  ·subst z
   rw[d_] at e
   cases e
   exact ok
  ·rw[i_ z] at e
   exact(I.hok b u e).stay (fun _ _ _ q=>q) (fun c q=>by rw[i_ (ne c _ q)];exact q) fun c xs q=>by rw[i_ (ne c _ q)];exact q
end
def tTry(K:PySem.W.Frag)(B:Addr)(ie:Nat)(tb:TX)(ts:TS):TS:=fun D σ H=>tb D (fun σ' C H'=>Up K C B/\∀x,H' x=none->ts {nx:=fun σ2 H2=>D.nx (σ2.set ie none) H2,rt:=fun _ _=>False} (σ'.set ie (some (.ref x))) (upd H' x (excO x C))) σ H
theorem qr_{X:Cx}{body suite:List Stmt}{b₀:Stmt}{cx n:Str}{cp hp pos:Pos}{B:Addr}{ie:Nat}{tb:TX}{ts:TS}(hb:PXs X body tb)(hex:X.ex=[])(hst:X.stack=X.env::X.outer)(hfrm:X.env.frame=some X.env.locals)(hN:X.N.Nodup)(hi:X.N[ie]?=some n)
  (hloc:Loc X.env.scope n) (hk:X.env.scope.names.lookup n=some .local) (hko:X.env.kindOf n=some .local) (hvis:Vis X.env.scope n) (hg:Gl X cx) (hm:X.mg cx=some (.ref B)) (hs:∀v,PSs (X.marked v).nox (b₀::suite) ts) (hd:(cx==("__debug__":Str))=false:=by decide) :
  PS X (.Try body [.ExceptHandler (some (.Name cx cp)) (some n) (b₀::suite) hp] [] [] pos) (tTry X.K B ie tb ts):=by
 intro pins s σ H D I h
 refine wpAny_Try_except (wpAny_mono (hb pins s σ H D _ I h) (fun f s1 q=>?_) fun e s1 q=>?_)
 ·cases f with
  | next=>exact wpAny_execs_nil q
  | brk=>exact q
  | cont=>exact q
  | ret u=>exact q
 obtain⟨x,C,a0,σ1,H1,H',sc,rfl,Ic,os,bare,un,hok,fly,up,hR⟩:=q
 have nil:∀(P:Addr->Prop),∀b∈([]:List Addr),P b:=fun _ b z=>absurd z (by simp)
 have I1:Inv X pins σ1 H' s1:=Ic.call' os un hok bare (nil _)
 have fsE:frs (X.env::X.outer)=frs X.stack:=by rw[hst]
 refine gp_ (h0:=sc.heap) (H:=H') (by rw[<-hst];exact Ic.ok.frames) (by rw[<-hst];exact I1.stack) hfrm fly (fun b o e=>un.there b o e (by simp)) (fun b o e=>(hok b o e).there) fun h2 nr2 fa=>?_
 rw[fsE] at nr2
 have un2:=hz_ un nr2
 have hok2:=fh_ hok nr2 (fun b hb=>I1.stkFree b hb)
 have I2:Inv X pins σ1 H' {s1 with heap:=h2}:=Ic.call' (s':={s1 with heap:=h2}) os un2 hok2 bare (nil _)
 refine cq_ (h0:=sc.heap) (H:=H') (l:=X.stack) I2.stack fa (fun b o e=>un2.there b o e (by simp)) (fun b o e=>(hok2 b o e).there) fun h3 nr3 fly3=>?_
 have un3:=hz_ un2 nr3
 have hok3:=fh_ hok2 nr3 (fun b hb=>I2.stkFree b hb)
 have I3:Inv X pins σ1 H' {s1 with heap:=h3}:=Ic.call' (s':={s1 with heap:=h3}) os un3 hok3 bare (nil _)
 obtain⟨ox,hxo,hxc⟩:∃o,h3.get? x=some o/\o.cls=.ref C:=by
  obtain⟨_,_,oe,_,_,_,_,e1,e2,_⟩:=fly3
  exact⟨oe,e1,e2.1⟩
 refine wpAny_handleBy_cons (codeAny_handlers_test (dJ_ (X:=X.marked (some (.ref x))) (I3.mark (some (.ref x))) hg hm ?_ hd)) (by intro z;cases z)
 refine jF_ I3.kIn up hxo hxc ?_
 refine codeAny_handlers_suite_as ?_
 refine cq_ (h0:=sc.heap) (H:=H') (l:=X.stack) (fl:=.none) I3.stack fly3 (fun b o e=>un3.there b o e (by simp)) (fun b o e=>(hok3 b o e).there) fun h4 nr4 fly4=>?_
 have un4:=hz_ un3 nr4
 have hok4:=fh_ hok3 nr4 (fun b hb=>I3.stkFree b hb)
 have I4:Inv X pins σ1 H' {s1 with heap:=h4}:=Ic.call' (s':={s1 with heap:=h4}) os un4 hok4 bare (nil _)
 obtain⟨x0,xH,oe4,vs4,_,_,_,e4,c4,d4,_⟩:=fly4
 have old:∀b o,sc.heap.get? b=some o->b≠x:=fun b o e z=>by rw[z,x0] at e;cases e
 have I5:Inv X pins σ1 (upd H' x (excO x C)) {s1 with heap:=h4}:=by
  refine lC_ I4 xH ?_ ?_ ?_ ?_ ⟨⟨oe4,e4,c4.1,c4.2.2,vs4,d4⟩,⟨oe4,e4⟩,fun g1 g2 ⟨o,a1,a2⟩ k=>⟨o,k o a1,a2⟩⟩
  ·cases z:X.s₀.heap.get? x with
   | none=>rfl
   | some o =>
    obtain⟨o',e'⟩:=Ic.base.there x o z (by rw[hex];simp)
    exact absurd rfl (old x o' e')
  ·obtain⟨m,⟨o,_,_,ho,_⟩,_⟩:=id Ic.loc
   exact(old _ o ho).symm
  ·intro y c e
   obtain⟨w',o,ho,_⟩:=Ic.cell y c e
   exact old _ o ho
  ·intro p hp'
   exact old _ _ (Ic.pin p hp').1
 refine aR_ I5 hN hi hloc (v:=.ref x) rfl (fun s6 I6=>?_) (.inr hk)
 refine wpAny_mono (hs (some (.ref x)) pins s6 _ _ _ ((I6.mark (some (.ref x))).wish _) (hR x xH)) (fun f s7 q7=>?_) fun _ _ z=>False.elim z
 cases f with
 | brk=>obtain⟨_,_,_,z⟩:=q7;exact z.elim
 | cont=>obtain⟨_,_,_,z⟩:=q7;exact z.elim
 | ret u=>obtain⟨_,_,_,_,_,z⟩:=q7;exact z.elim
 | next =>
  obtain⟨σ7,H7,I7w,q8⟩:=q7
  have I7:Inv X pins σ7 H7 s7:=Inv.unmark Ic.ok I7w.unwish
  have hlen:ie<σ7.length:=by rw[I7.len];exact(List.getElem?_eq_some_iff.mp hi).1
  show wpAny _ _ (bindName X.env n .none>>=fun _=>unbindBehindTheSuite X.env n hp) _ _ s7
  refine wpAny_bind (wpAny_bindName (aR_ I7 hN hi hloc (v:=.non) rfl (fun s8 I8=>?_) (.inr hk)))
  unfold unbindBehindTheSuite
  refine wpAny_onRaise (ke_ I8 hN hi hk (v:=.non) (List.getElem?_set_self hlen) hvis hko fun s9 I9=>?_)
  rw[List.set_set] at I9
  exact⟨_,H7,I9,q8⟩
end L2
namespace L2
open PySem PySem.Spec PyProof.Rows PySem.W
structure ClsE(K:Frag)(C:Addr):Prop where
 hg:findIn K (.ref C) "__getattribute__"=some (some (.builtin "BaseException.__getattribute__"))
 hh:findIn K (.ref C) "__getattr__"=some none
 fo:findObj K C none "__class__"=some (.bind (.builtin "getset_descriptor.__get__") (.builtin "object.__class__"))
 hm:mroIn K C (.type "object")=some true
 hb:mroIn K C (.type "BaseException")=some true
section
variable{prog:Program}{w:World}{A:Around}{E:Value->Shared->Prop}{s:Shared}{K:Frag}{x C:Addr}{ox:Obj}
theorem jd_{v:Value}{b:Bool}(h:mroIn K C v=some b):∃cd,clsIn K C=some cd:=by
 unfold mroIn at h
 cases e:clsIn K C with
 | none=>rw[e] at h;cases h
 | some cd=>exact⟨cd,rfl⟩
theorem gq_{tk:Tok}{Q:Fin->Shared->Prop}(c:ClsE K C)(X:K.In s.heap)(I:PySem.W.InstAt s.heap x ox C none)(h:Q (.done (.ret (.ref C))) s):wpAny (model prog w) A (Builtin.«object.__getattribute__» ⟨[.ref x,.str "__class__" tk],[]⟩) Q E s:=by
 have L0:=I.type (M:=model prog w)
 have L1:=looks_find (M:=model prog w) X I c.fo
 obtain⟨hh,gg,d,t,os⟩:=s
 refine wpAny_bind (wpAny_pure (wpAny_bind (wpAny_pure (wpAny_bind (L0.at (wpAny_bind (L1.at ?_)))))))
 show wpAny _ _ (holding [_] (call _ _)>>=ret) _ _ _
 refine wpAny_bind (wpAny_holding (wpAny_call (class_get (s:=⟨hh,gg,d,t,os⟩) (ox:=ox) (od:=none) X I c.hm ?_)))
 exact wpAny_pure h
theorem nv_{tk:Tok}{R:Result->Shared->Prop}(c:ClsE K C)(X:K.In s.heap)(I:PySem.W.InstAt s.heap x ox C none)(h:R (.ok (.ret (.ref C))) s):codeAny (model prog w) A (.call (.builtin "BaseException.__getattribute__") ⟨[.ref x,.str "__class__" tk],[]⟩) R s:=by
 have L0:=I.type (M:=model prog w)
 have L1:=looks_mroIn (M:=model prog w) X c.hb
 have LI:Looks (model prog w) s.heap (isInstance (.ref x) (.type "BaseException")) true:=L0.andThen L1
 obtain⟨hh,gg,d,t,os⟩:=s
 refine codeAny_call_builtin F.excAttr_ValueError.ga.plain F.entry_bexc_ga ?_
 have hk:builtinKind "BaseException.__getattribute__"=some .slot:=by decide +kernel
 have hsplit:splitId "BaseException.__getattribute__"=some ("BaseException","__getattribute__"):=by decide +kernel
 have ha:=F.args_bexc_ga (.ref x) (.str "__class__" tk)
 simp only[checkBuiltinCall,hk,hsplit]
 refine wpAny_bind (LI.at ?_)
 simp only[Bool.not_true,Bool.false_eq_true,if_false]
 unfold argsOk at ha
 generalize Manifest.signature? "BaseException.__getattribute__"=o at ha⊢
 cases o with
 | none=>exact wpAny_pure (gq_ (s:=⟨hh,gg,d,t,os⟩) c X I h)
 | some sig =>
  have ha':Bind.checkArgs "BaseException.__getattribute__" sig ⟨[.ref x,.str "__class__" tk],[]⟩=pure ():=ha
  show wpAny _ _ (Bind.checkArgs "BaseException.__getattribute__" sig ⟨[.ref x,.str "__class__" tk],[]⟩) _ _ _
  rw[ha']
  exact wpAny_pure (gq_ (s:=⟨hh,gg,d,t,os⟩) c X I h)
theorem lP_{Q:Option Value->Shared->Prop}(c:ClsE K C)(X:K.In s.heap)(I:PySem.W.InstAt s.heap x ox C none)(h:Q (some (.ref C)) {s with toks:=s.toks+1}):wpAny (model prog w) A (getAttr? (.ref x) "__class__") Q E s:=by
 obtain⟨hh,gg,d,t,os⟩:=s
 have L0:=I.type (M:=model prog w)
 have L1:=looks_findIn (M:=model prog w) X c.hg
 have L2:=looks_findIn (M:=model prog w) X c.hh
 unfold getAttr? getAttrBy? getAttrBy
 refine wpAny_bind (wpAny_mkText (wpAny_bind (wpAny_attempt (wpAny_holding (wpAny_bind (L0.at (wpAny_bind (L1.at ?_))))))))
 have hx2:(Value.builtin "BaseException.__getattribute__"==Value.builtin "object.__getattribute__")=false:=by decide +kernel
 have hx1:(onTheHeap (Value.ref C)&&Value.builtin "BaseException.__getattribute__"==Value.builtin "object.__getattribute__")=false:=by rw[hx2];rfl
 simp only[hx1,Bool.false_eq_true,if_false]
 unfold getAttrByItsOwn hookBefore callGetattribute boundAndCalled
 simp only[onTheHeap,if_true,Bool.false_and,Bool.false_eq_true,if_false]
 refine wpAny_bind (L2.at (wpAny_bind (wpAny_attempt (wpAny_holding ?_))))
 rw[F.excAttr_ValueError.ga.bind (.ref x)]
 refine wpAny_bind (wpAny_pure (wpAny_call (nv_ (s:=⟨hh,gg,d,t+1,os⟩) c X I ?_)))
 exact handed_on rfl (wpAny_pure h)
theorem nj_(c:ClsE K C):KitX K (.ref x) (.ref C) (fun h=>∃ox,PySem.W.InstAt h x ox C none) where
 ty:=fun _ _ _ ⟨_,I⟩=>I.type
 it:=fun _ _ X _=>by
  obtain⟨cd,q⟩:=jd_ c.hm
  unfold clsIn at q
  split at q
  ·rename_i a1 a2 a3 a4 look
   intro A' Q' E' s' keep z
   unfold isType loadHead
   exact wpAny_bind (wpAny_loadPart (keep _ _ (X _ _ look)) (wpAny_pure z))
  ·cases q
 ne:=fun h tp dd its n sl X htp=>by
  obtain⟨cd,q⟩:=jd_ c.hm
  refine Bool.eq_false_iff.mpr fun same=>?_
  have e:C=tp:=Value.ref.inj (beq_iff_eq.mp same)
  subst e
  unfold clsIn at q
  split at q
  ·rename_i a1 a2 a3 a4 look
   cases (X _ _ look).symm.trans htp
  ·cases q
 ca:=fun X ⟨_,I⟩ k=>lP_ c X I k
end
section
variable{X:Cx}
theorem rg_{P:Program}{w:World}{H:Hp}{h:Heap}{x C:Addr}(ok:HOk P w H h)(e:H x=some (excO x C)):∃ox,PySem.W.InstAt h x ox C none:=by
 obtain⟨⟨o,a1,a2,a3,vs,a4⟩,_⟩:=(show ObjOk P w H h x (excO x C) from ok x _ e)
 refine⟨o,a1,a2,?_,?_⟩
 ·unfold notCls
  rw[a4]
 ·rw[a3];exact trivial
theorem gz_:CallR X (.builtin "isinstance") (fun xs H Q=>∃x C b,∃d:V,∃dv:Value,xs=[.ref x,d]/\H x=some (excO x C)/\ClsE X.K C/\(∀u,RelV d u->u=dv)/\kitOne X.K (.ref C) dv=some b/\Q (.bl b) H):=by
 intro pins s σ H xs us Q I r h
 obtain⟨x,C,b,d,dv,rfl,hx,c,hdv,e,q⟩:=h
 obtain⟨u,v,rfl,rx,ry⟩:=vals2 r
 cases (show u=Value.ref x from rx)
 cases hdv v ry
 exact kia_one (nj_ c) I.kIn (rg_ I.hok hx) e (fun z=>nomatch z) fun tk=>⟨.bl b,H,I.tok tk,rfl,q⟩
end
def spOr(a b:Sp):Sp:=fun vs H Q E=>a vs H Q E\/b vs H Q E
section
variable{P:Program}{w:World}{K:PySem.W.Frag}{mg:Str->Option Value}{base:Heap}{CX:CXT}{k:Nat}{f:Addr}{fd:FuncData}{ps:List Str}{sp sp':Sp}{x:Str}
theorem FnOk.or(F:FnOk P w K mg base CX k f fd ps sp)(G:FnOk P w K mg base CX k f fd ps sp'):FnOk P w K mg base CX k f fd ps (spOr sp sp') :=
 ⟨fun vs H Q E h=>h.elim (F.len vs H Q E) (G.len vs H Q E),fun A outer s H args us vs Q E hr he hb hv hs=>hs.elim (F.run A outer s H args us vs Q E hr he hb hv) (G.run A outer s H args us vs Q E hr he hb hv)⟩
structure Def1(P:Program)(w:World)(K:PySem.W.Frag)(mg:Str->Option Value)(base:Heap)(k:Nat)(x:Str)(ps:List Str)(sp:Sp):Prop where
 ex:∃f fd,FnOk P w K mg base (CX1 P w) k f fd ps sp/\mg x=some (.ref f)/\PySem.W.keepIn K (.ref f)=true/\Binds K fd ps []
end
section
variable{P:Program}{w:World}{K:PySem.W.Frag}{mg:Str->Option Value}{base:Heap}{N:List Str}{qual:Str}{scope:Scope}{f:Addr}{cd:Value}{A:Around}{outer:List Env}{s:Shared}{H:Hp}{E:XK}{k:Nat}{x:Str}{ps:List Str}{sp:Sp}{e:Expr}{es:List Expr}{t:TA}{p pos:Pos}
theorem qx_(D:Def1 P w K mg base k x ps sp)(hr:Room k (cxOf (CX1 P w) P w K mg base N qual scope f cd A outer s H E).A)(hg:Gl (cxOf (CX1 P w) P w K mg base N qual scope f cd A outer s H E) x)(ha:PA (cxOf (CX1 P w) P w K mg base N qual scope f cd A outer s H E) (e::es) t)
  (hdb:(x==("__debug__":Str))=false:=by decide) (he:starEach (e::es) (cxOf (CX1 P w) P w K mg base N qual scope f cd A outer s H E).env=(false,eval e (cxOf (CX1 P w) P w K mg base N qual scope f cd A outer s H E).env)::starEach es (cxOf (CX1 P w) P w K mg base N qual scope f cd A outer s H E).env:=by rfl)
  (hpl:(backTo pos (starEach es (cxOf (CX1 P w) P w K mg base N qual scope f cd A outer s H E).env)).any (·.1)=false:=by rfl):PE (cxOf (CX1 P w) P w K mg base N qual scope f cd A outer s H E) (.Call (.Name x p) (e::es) [] pos) (tCall sp [] E t):=by
 obtain⟨f',fd,G,h1,h2,h3⟩:=D.ex
 exact kY_ G hr hg h1 h2 h3 .nil passes1 ha hdb he hpl
end
section
variable{X:Cx}{k:Nat}{x:Str}{ps:List Str}{sp:Sp}{e:Expr}{es:List Expr}{t:TA}{p pos epos:Pos}
end
end L2
namespace Hv
open PySem L2
section
variable{P:Program}{w:World}{K:PySem.W.Frag}{mg:Str->Option Value}{base h:Heap}
def cs(l:List Addr):Nat->Addr:=fun j=>l.getD j 0
end
structure Kind(K:PySem.W.Frag)(c:Nat->Addr)(C:Addr)(i:Nat):Prop where
 cl:ClsE K C
 lt:i<10
 kt:∀j,j<10->PySem.W.kitOne K (.ref C) (.ref (c j))=some (decide (i=j))
 kv:PySem.W.kitOne K (.ref C) (.type "ValueError")=some true
structure ErrNames(mg:Str->Option Value)(c:Nat->Addr):Prop where
 n0:mg "NoFrame"=some (.ref (c 0))
 n1:mg "NoNumber"=some (.ref (c 1))
 n2:mg "NoPart"=some (.ref (c 2))
 n3:mg "NoSum"=some (.ref (c 3))
 n4:mg "NoMiss"=some (.ref (c 4))
 n5:mg "NoEven"=some (.ref (c 5))
 n6:mg "NoFrames"=some (.ref (c 6))
 n7:mg "NoText"=some (.ref (c 7))
 n8:mg "NoName"=some (.ref (c 8))
 n9:mg "NoRow"=some (.ref (c 9))
 ve:mg "ValueError"=none
theorem pR_:bootBuiltins "ValueError"=some (.type "ValueError"):=by first | exact PyProof.Rows.boot_ValueError | rfl
def tK(K:PySem.W.Frag)(c:Addr):TE:=fun σ H Q=>∃x C b,σ[0]?=some (some (.ref x))/\H x=some (excO x C)/\ClsE K C/\PySem.W.kitOne K (.ref C) (.ref c)=some b/\Q (.bl b) H
theorem pk{X:Cx}{c:Addr}{nm cn:Str}{q0 p q pos:Pos}(hi:X.mg "isinstance"=none)(hm:X.mg nm=some (.ref c))(hv:PE X (.Name cn q0) (tVar 0))(hg:Gl X "isinstance")(hg2:Gl X nm)(hd:(nm==("__debug__":Str))=false:=by decide):PE X (.Call (.Name "isinstance" p) [.Name cn q0,.Name nm q] [] pos) (tK X.K c) :=
 weak (o_ gz_ hg hi boot_isinstance (a_ hv (a_ (pe_ (v:=.ref c) hg2 hm rfl hd) c_))) fun σ H Q h=>by
  obtain⟨x,C,b,h1,h2,h3,h4,q⟩:=h
  exact⟨_,h1,x,C,b,_,_,rfl,h2,h3,fun _ r=>r,h4,q⟩
def aw_:List Str:=["frame","number","part","sum","miss","even","frames","text","name","row"]
theorem mu_:(aw_.all fun x=>PyData.canLay0 (.str x))=true:=by decide +kernel
def ih_(K:PySem.W.Frag)(c:Nat->Addr):Sp:=fun vs H Q _=>∃x C,∃i:Nat,∃wd:Str,∃w:Str,vs=[.ref x,.str w]/\PyData.canLay0 (.str w)=true/\H x=some (excO x C)/\Kind K c C i/\aw_[i]?=some wd/\∀H',Same H H'->Q (.bl (decide (wd=w))) H'
@[irreducible] def wE:Expr:=(.List [(.Constant (.str "frame") 0 ⟨302,13,302,20⟩),(.Constant (.str "number") 0 ⟨302,22,302,30⟩),(.Constant (.str "part") 0 ⟨302,32,302,38⟩),(.Constant (.str "sum") 0 ⟨302,40,302,45⟩),(.Constant (.str "miss") 0 ⟨302,47,302,53⟩),(.Constant (.str "even") 0 ⟨302,55,302,61⟩),(.Constant (.str "frames") 0 ⟨302,63,302,71⟩),(.Constant (.str "text") 0 ⟨302,73,302,79⟩),(.Constant (.str "name") 0 ⟨302,81,302,87⟩),(.Constant (.str "row") 0 ⟨302,89,302,94⟩)] ⟨302,12,302,95⟩)
theorem oH_:wE=(.List [(.Constant (.str "frame") 0 ⟨302,13,302,20⟩),(.Constant (.str "number") 0 ⟨302,22,302,30⟩),(.Constant (.str "part") 0 ⟨302,32,302,38⟩),(.Constant (.str "sum") 0 ⟨302,40,302,45⟩),(.Constant (.str "miss") 0 ⟨302,47,302,53⟩),(.Constant (.str "even") 0 ⟨302,55,302,61⟩),(.Constant (.str "frames") 0 ⟨302,63,302,71⟩),(.Constant (.str "text") 0 ⟨302,73,302,79⟩),(.Constant (.str "name") 0 ⟨302,81,302,87⟩),(.Constant (.str "row") 0 ⟨302,89,302,94⟩)] ⟨302,12,302,95⟩):=by unfold wE;rfl
def qf_:TE:=fun _ H Q=>∀l,H l=none->Q (.ref l) (upd H l (.lst (aw_.map V.str)))
theorem mN_{X:Cx}:PE X wE qf_:=by
 rw[oH_]
 refine weak (t:=tLst (tCons (tC (.str "frame")) (tCons (tC (.str "number")) (tCons (tC (.str "part")) (tCons (tC (.str "sum")) (tCons (tC (.str "miss")) (tCons (tC (.str "even")) (tCons (tC (.str "frames")) (tCons (tC (.str "text")) (tCons (tC (.str "name")) (tCons (tC (.str "row")) tNil))))))))))) ?_ fun σ H Q h=>⟨sz (by decide),fun l hl=>h l hl⟩
 refine A_ ?_
 refine a_ N_ ?_
 refine a_ N_ ?_
 refine a_ N_ ?_
 refine a_ N_ ?_
 refine a_ N_ ?_
 refine a_ N_ ?_
 refine a_ N_ ?_
 refine a_ N_ ?_
 refine a_ N_ ?_
 refine a_ N_ ?_
 exact c_
theorem nw_(a b:Str):PyData.eqv (.list [.str a]) (.list [.str b])=decide (a=b):=by
 simp[PyData.eqv,PyData.eqvAll]
 try rfl
abbrev stK(i:Nat):Stmt:=(v_ aB_).getD i (.Pass ⟨0,0,0,0⟩)
theorem nk_:v_ aB_=stK 0::stK 1::stK 2::.Assign [(.Name "words" ⟨302,4,302,9⟩)] wE ⟨302,4,302,95⟩::(v_ aB_).drop 4:=by rw[oH_];rfl
section
variable{P:Program}{w:World}{K:PySem.W.Frag}{mg:Str->Option Value}{base:Heap}{c:Nat->Addr}
theorem nT_:FnScope ["e","due","kinds","words","found"] ["e","due"] (g_ aB_):=⟨rfl,rfl,rfl,by decide +kernel,rfl,by decide +kernel,by decide +kernel⟩
theorem pj_{f:Addr}{fd:FuncData}(F:Fun K "_law_kind" "_law_kind" aB_ f fd)(T:Txt mg)(N:ErrNames mg c):FnOk P w K mg base CX0 1 f fd ["e","due"] (ih_ K c):=by
 refine F.ok nT_ (fun vs H Q E h=>?_) (fun cdv A outer s H vs Q E hr h=>?_)
 ·obtain⟨x,C,i,wd,wv,rfl,_⟩:=h;rfl
 ·obtain⟨x,C,i,wd,wv,rfl,hok,hx,kd,hw,k⟩:=h
  have hwd:PyData.canLay0 (.str wd)=true:=List.all_eq_true.mp mu_ wd (List.mem_of_getElem? hw)
  have nd:=nT_.nd
  have hu:=hr.units
  have nd2:List.Nodup (["word","kind"]:List Str):=by decide +kernel
  rw[nk_]
  refine⟨_,(b_ (j_ (i:=2) nd rfl (Or.inl rfl) (A_ (a_ (pk T.isi N.n0 (pv 0) (by rfl) (by rfl)) (a_ (pk T.isi N.n1 (pv 0) (by rfl) (by rfl)) (a_ (pk T.isi N.n2 (pv 0) (by rfl) (by rfl)) (a_ (pk T.isi N.n3 (pv 0) (by rfl) (by rfl)) c_))))))
   (b_ (j_ (i:=2) nd rfl (Or.inl rfl) (n_ fV_ (pv 2) (A_ (a_ (pk T.isi N.n4 (pv 0) (by rfl) (by rfl)) (a_ (pk T.isi N.n5 (pv 0) (by rfl) (by rfl)) (a_ (pk T.isi N.n6 (pv 0) (by rfl) (by rfl)) c_))))))
   (b_ (j_ (i:=2) nd rfl (Or.inl rfl) (n_ fV_ (pv 2) (A_ (a_ (pk T.isi N.n7 (pv 0) (by rfl) (by rfl)) (a_ (pk T.isi N.n8 (pv 0) (by rfl) (by rfl)) (a_ (pk T.isi N.n9 (pv 0) (by rfl) (by rfl)) c_))))))
   (b_ (j_ (i:=3) nd rfl (Or.inl rfl) mN_ (hs:=by rw[oH_];rfl))
   (b_ (hj_ (i:=4) (N:=["word","kind"]) (k:=2) (fr:=[]) nd rfl (Or.inl rfl) (cmpS (sc:=g_ aB_) (NX:=["e","due","kinds","words","found"]) (k:=2) (fr:=[]) rfl rfl (by decide +kernel)) (cmpF (sc:=g_ aB_) (NX:=["e","due","kinds","words","found"]) rfl (by decide +kernel)) rfl (kV_ (by rfl) T.zip (pv 3) (pv 2)) (fun cl C s H fp=>eX_ K rfl rfl (z_ (p_ (i:=0) nd2 rfl (Or.inl rfl)) (z_ (p_ (i:=1) nd2 rfl (Or.inl rfl)) aY_))) iW_ (fun cl C s H fp=>nX_ (ag_ (pv 1))) (fun cl C s H fp=>pv 0) (by rfl))
   (h_ (m_ (cl_ (o_ gz_ (by rfl) T.isi boot_isinstance (a_ (pv 0) (a_ (dW_ N.ve pR_) c_))) (cT_ (bU_ (nZ_ hu) (pv 4) (A_ (a_ (pv 1) c_)) (nomark _))))))))))),?_⟩
  refine⟨x,C,_,rfl,hx,kd.cl,kd.kt 0 (by decide),⟨x,C,_,rfl,hx,kd.cl,kd.kt 1 (by decide),⟨x,C,_,rfl,hx,kd.cl,kd.kt 2 (by decide),⟨x,C,_,rfl,hx,kd.cl,kd.kt 3 (by decide),⟨sz (by simp),fun l1 hl1=>?_⟩⟩⟩⟩⟩
  have s1:=f_ (o:=.lst [.bl (decide (i=0)),.bl (decide (i=1)),.bl (decide (i=2)),.bl (decide (i=3))]) hl1
  have u1:(upd H l1 (.lst [.bl (decide (i=0)),.bl (decide (i=1)),.bl (decide (i=2)),.bl (decide (i=3))])) l1=_:=d_
  generalize upd H l1 (.lst [.bl (decide (i=0)),.bl (decide (i=1)),.bl (decide (i=2)),.bl (decide (i=3))])=H1 at s1 u1⊢
  have hx2:=s1 _ _ hx
  refine⟨_,rfl,⟨x,C,_,rfl,hx2,kd.cl,kd.kt 4 (by decide),⟨x,C,_,rfl,hx2,kd.cl,kd.kt 5 (by decide),⟨x,C,_,rfl,hx2,kd.cl,kd.kt 6 (by decide),⟨sz (by simp),fun m2 hm2=>?_⟩⟩⟩⟩⟩
  have t2:=f_ (o:=.lst [.bl (decide (i=4)),.bl (decide (i=5)),.bl (decide (i=6))]) hm2
  have v2:(upd H1 m2 (.lst [.bl (decide (i=4)),.bl (decide (i=5)),.bl (decide (i=6))])) m2=_:=d_
  generalize upd H1 m2 (.lst [.bl (decide (i=4)),.bl (decide (i=5)),.bl (decide (i=6))])=G2 at t2 v2⊢
  refine⟨l1,m2,_,_,rfl,rfl,t2 _ _ u1,v2,sz (by simp),fun l2 hl2=>?_⟩
  have s2:=(s1.trans t2).trans (f_ (o:=.lst [.bl (decide (i=0)),.bl (decide (i=1)),.bl (decide (i=2)),.bl (decide (i=3)),.bl (decide (i=4)),.bl (decide (i=5)),.bl (decide (i=6))]) hl2)
  have u2:(upd G2 l2 (.lst [.bl (decide (i=0)),.bl (decide (i=1)),.bl (decide (i=2)),.bl (decide (i=3)),.bl (decide (i=4)),.bl (decide (i=5)),.bl (decide (i=6))])) l2=_:=d_
  generalize hH2:upd G2 l2 (.lst [.bl (decide (i=0)),.bl (decide (i=1)),.bl (decide (i=2)),.bl (decide (i=3)),.bl (decide (i=4)),.bl (decide (i=5)),.bl (decide (i=6))])=H2 at s2 u2
  rw[show upd G2 l2 (.lst ([.bl (decide (i=0)),.bl (decide (i=1)),.bl (decide (i=2)),.bl (decide (i=3))]++[.bl (decide (i=4)),.bl (decide (i=5)),.bl (decide (i=6))]))=H2 from hH2]
  have hx3:=s2 _ _ hx
  refine⟨_,rfl,⟨x,C,_,rfl,hx3,kd.cl,kd.kt 7 (by decide),⟨x,C,_,rfl,hx3,kd.cl,kd.kt 8 (by decide),⟨x,C,_,rfl,hx3,kd.cl,kd.kt 9 (by decide),⟨sz (by simp),fun m3 hm3=>?_⟩⟩⟩⟩⟩
  have t3:=f_ (o:=.lst [.bl (decide (i=7)),.bl (decide (i=8)),.bl (decide (i=9))]) hm3
  have v3:(upd H2 m3 (.lst [.bl (decide (i=7)),.bl (decide (i=8)),.bl (decide (i=9))])) m3=_:=d_
  generalize upd H2 m3 (.lst [.bl (decide (i=7)),.bl (decide (i=8)),.bl (decide (i=9))])=G3 at t3 v3⊢
  refine⟨l2,m3,_,_,rfl,rfl,t3 _ _ u2,v3,sz (by simp),fun l3 hl3=>?_⟩
  have s3:=(s2.trans t3).trans (f_ (o:=.lst [.bl (decide (i=0)),.bl (decide (i=1)),.bl (decide (i=2)),.bl (decide (i=3)),.bl (decide (i=4)),.bl (decide (i=5)),.bl (decide (i=6)),.bl (decide (i=7)),.bl (decide (i=8)),.bl (decide (i=9))]) hl3)
  have u3:(upd G3 l3 (.lst [.bl (decide (i=0)),.bl (decide (i=1)),.bl (decide (i=2)),.bl (decide (i=3)),.bl (decide (i=4)),.bl (decide (i=5)),.bl (decide (i=6)),.bl (decide (i=7)),.bl (decide (i=8)),.bl (decide (i=9))])) l3=_:=d_
  generalize hH3:upd G3 l3 (.lst [.bl (decide (i=0)),.bl (decide (i=1)),.bl (decide (i=2)),.bl (decide (i=3)),.bl (decide (i=4)),.bl (decide (i=5)),.bl (decide (i=6)),.bl (decide (i=7)),.bl (decide (i=8)),.bl (decide (i=9))])=H3 at s3 u3
  rw[show upd G3 l3 (.lst ([.bl (decide (i=0)),.bl (decide (i=1)),.bl (decide (i=2)),.bl (decide (i=3)),.bl (decide (i=4)),.bl (decide (i=5)),.bl (decide (i=6))]++[.bl (decide (i=7)),.bl (decide (i=8)),.bl (decide (i=9))]))=H3 from hH3]
  have ek:([.bl (decide (i=0)),.bl (decide (i=1)),.bl (decide (i=2)),.bl (decide (i=3)),.bl (decide (i=4)),.bl (decide (i=5)),.bl (decide (i=6)),.bl (decide (i=7)),.bl (decide (i=8)),.bl (decide (i=9))]:List V)=(List.range 10).map fun j=>V.bl (decide (i=j)):=rfl
  rw[ek] at u3
  intro q hq
  have s4:=s3.trans (f_ (o:=.lst (aw_.map V.str)) hq)
  have u4:(upd H3 q (.lst (aw_.map V.str))) q=_:=d_
  have k4:(upd H3 q (.lst (aw_.map V.str))) l3=_:=(f_ (o:=.lst (aw_.map V.str)) hq) _ _ u3
  generalize upd H3 q (.lst (aw_.map V.str))=H4 at s4 u4 k4⊢
  refine⟨_,rfl,_,rfl,q,l3,rfl,rfl,⟨_,SqL.of u4⟩,⟨_,SqL.of k4⟩,jb_ (K:=K) (a:=q) (b:=l3) (xs:=aw_.map V.str) (ys:=(List.range 10).map fun j=>V.bl (decide (i=j)))
   (fun m zs H'=>zs=(if i<m then [V.str wd] else [])/\Same H4 H') rfl ⟨by simp,Same.refl _⟩ (fun m zs H' _ p=>⟨SqL.of (p.2 _ _ u4),SqL.of (p.2 _ _ k4)⟩)
   (fun m zs H' hi p=>szl (by rw[p.1];split <;> simp)) ?_ ?_⟩
  ·rintro m x1 y1 zs H' t hx1 hy1 ⟨rfl,s'⟩ ht
   obtain⟨w1,hw1,rfl⟩:∃w1,aw_[m]?=some w1/\x1=.str w1:=by
    rw[List.getElem?_map] at hx1
    cases e:aw_[m]? with
    | none=>rw[e] at hx1;cases hx1
    | some d=>rw[e] at hx1;exact⟨d,rfl,(Option.some.inj hx1).symm⟩
   have hm:m<10:=(List.getElem?_eq_some_iff.mp hw1).1
   have ey:y1=V.bl (decide (i=m)):=by
    rw[List.getElem?_map,List.getElem?_range hm] at hy1
    exact(Option.some.inj hy1).symm
   subst ey
   have st:=s'.trans (f_ (o:=.tup [.str w1,.bl (decide (i=m))]) ht)
   refine⟨t,_,rfl,SqT.of d_,rfl,_,_,rfl,_,_,rfl,rfl,_,rfl,_,rfl,?_⟩
   refine ite2 (fun h=>?_) (fun h=>?_)
   ·have e:i=m:=of_decide_eq_true h
    subst e
    have ew:w1=wd:=by rw[hw] at hw1;exact(Option.some.inj hw1).symm
    subst ew
    refine⟨_,rfl,?_,st⟩
    rw[if_neg (by lia),if_pos (by lia)]
    rfl
   ·have e:¬ i=m:=fun z=>h (decide_eq_true z)
    refine⟨?_,st⟩
    by_cases h2:i<m
    ·rw[if_pos h2,if_pos (by lia)]
    ·rw[if_neg h2,if_neg (by lia)]
  rintro zs H' ⟨rfl,s'⟩ r hr'
  have hi10:i<(aw_.map V.str).length:=kd.lt
  rw[if_pos hi10]
  have s5:=s4.trans (s'.trans (f_ (o:=.lst [.str wd]) hr'))
  have u5:(upd H' r (.lst [.str wd])) r=_:=d_
  generalize upd H' r (.lst [.str wd])=H5 at s5 u5⊢
  refine⟨_,rfl,x,C,_,_,_,rfl,s5 _ _ hx,kd.cl,fun _ r=>r,kd.kv,true,rfl,iteT ?_⟩
  refine⟨_,rfl,_,rfl,sz (by simp),fun p hp=>?_⟩
  have s6:=s5.trans (f_ (o:=.lst [.str wv]) hp)
  refine⟨.list [.str wd],.list [.str wv],datL ((f_ (o:=.lst [.str wv]) hp) _ _ u5) (.cons (datS wd) .nil),datL d_ (.cons (datS wv) .nil),⟨by simp only[PyData.canLay0,PyData.canLayAll0] at hwd⊢;simp[hwd],by simp only[PyData.canLay0,PyData.canLayAll0] at hok⊢;simp[hok],by simp[PyData.depth,PyData.depthAll]⟩,?_⟩
  rw[if_neg (by decide),nw_]
  exact k _ s6
end
end Hv
namespace L2
open PySem PySem.Spec PyProof.Rows
section
variable{X:Cx}{k:Nat}{f:Addr}{fd:FuncData}{ps:List Str}{sp:Sp}{x n:Str}{p pn pos apos:Pos}{e:Expr}{es:List Expr}{t:TA}{i:Nat}
end
end L2
namespace Hv
open PySem L2 PySem.Spec PyProof.Rows
structure MDef1(P:Program)(w:World)(K:PySem.W.Frag)(mg:Str->Option Value)(base:Heap)(k:Nat)(C:Addr)(m:Str)(ps:List Str)(sp:Sp):Prop where
 ex:∃f fd,FnOk P w K mg base (CX1 P w) k f fd ps sp/\Meth K C m f/\Binds K fd ps []
section
variable{X:Cx}{k:Nat}{C:Addr}{m n:Str}{ps:List Str}{sp:Sp}{e o:Expr}{es:List Expr}{t:TA}{ta:TE}{pn pos apos spos:Pos}{i:Nat}
def xMSet(C:Addr)(m:Str)(sp:Sp)(i:Nat)(ta:TE)(t:TA):TX:=fun D R σ H=>ta σ H fun x H1=>∃a dx fs,x=.ref a/\H1 a=some (.ins C dx fs)/\fs.lookup m=none/\t σ H1 fun vs H2=>sp (x::vs) H2 (fun v H3=>D.nx (σ.set i (some v)) H3) (fun C' _ H3=>∃A,C'=.ref A/\R σ A H3)
theorem oX_{pl:Sem Bool}(c:Cls X.K C)(D:MDef1 X.prog X.w X.K X.mg X.base k C m ps sp)(hN:X.N.Nodup)(hi:X.N[i]?=some n)(hx:Loc X.env.scope n)(hr:Room k X.A)(ho:PE X.nox o ta)(ha:PA X.nox (e::es) t)
  (hst:starEach (e::es) X.env=(false,eval e X.env)::starEach es X.env:=by rfl) (hpl:(backTo pos (starEach es X.env)).any (·.1)=false:=by rfl)
  (ht:eval (.Call (.Attribute o m apos) (e::es) [] pos) X.env=(do
   let ov <-eval o X.env
   standAt apos.atName
   let (f,first) <-holding [ov] (getMethod ov m pl)
   callWith pos f first (backTo pos (starEach (e::es) X.env)) (backToKw pos (keywordEach [] X.env))):=by rfl)
  (hs:swapsWith (.Call (.Attribute o m apos) (e::es) [] pos) (some (.Name n pn)) spos.line X.env=pure false:=by rfl) (hf:X.fn n=true\/X.env.scope.names.lookup n=some .local:=by first | exact .inl rfl | exact .inr rfl | assumption):PX X (.Assign [.Name n pn] (.Call (.Attribute o m apos) (e::es) [] pos) spos) (xMSet C m sp i ta t):=by
 obtain⟨f',fd,F,hm,hb⟩:=D.ex
 intro pins s σ H D R I h
 refine wpAny_Assign_Name ?_ hs
 have hO:wpAny (model X.prog X.w) X.A (eval o X.env) (EP X pins σ fun x H1=>∃a dx fs,x=.ref a/\H1 a=some (.ins C dx fs)/\fs.lookup m=none/\t σ H1 fun vs H2=>sp (x::vs) H2 (fun v H3=>D.nx (σ.set i (some v)) H3) (fun C' _ H3=>∃A,C'=.ref A/\R σ A H3)) (XP X pins R) s :=
  wpAny_mono (ho pins s σ H _ (I.wish _) h) (fun u s1 ⟨x,H1,I1,rx,q⟩=>⟨x,H1,I1.unwish,rx,q⟩) fun _ _ z=>False.elim z
 refine PySem.W.methodCall_KW (pl:=pl) (thn hO fun u s1 ⟨x,H1,I1,rx,a,dx,fs,ex,ea,l,q⟩=>?_) ht
 subst ex
 obtain rfl:u=Value.ref a:=rx
 refine aP_ I1 ea c hm l ?_
 have hA:wpAny (model X.prog X.w) X.A (spliced (backTo pos (starEach (e::es) X.env))) (AP X pins σ fun vs H2=>sp (.ref a::vs) H2 (fun v H3=>D.nx (σ.set i (some v)) H3) (fun C' _ H3=>∃A,C'=.ref A/\R σ A H3)) (XP X pins R) s1 :=
  wpAny_mono (ha pos pins s1 σ H1 _ (I1.wish _) q) (fun us s2 ⟨vs,H2,I2,r,q2⟩=>⟨vs,H2,I2.unwish,r,q2⟩) fun _ _ z=>False.elim z
 refine PySem.W.callWith_K (first:=[.ref a]) (h₀:=X.base) I.ok.mod.kin hm.kp (thn hA fun us s2 ⟨vs,H2,I2,r,q2⟩=>⟨I2.kIn,?_⟩) hst hpl
 have r':Vals (V.ref a::vs) (Value.ref a::us):=.cons rfl r
 have hl:((Value.ref a::us)++[]).length=ps.length:=by rw[List.append_nil,<-r'.length];exact F.len _ _ _ _ q2
 have hbb:=hb s2 (Value.ref a::us) I2.kIn hl
 rw[List.append_nil] at hbb
 refine wpAny_call (codeAny_mono (F.run X.A X.stack s2 H2 ⟨Value.ref a::us,[]⟩ (Value.ref a::us) (V.ref a::vs) _ _ hr I2.env0 hbb r' q2) fun rs s' hq=>?_)
 cases rs with
 | error er =>
  obtain⟨y,C',a0,H',ey,os,bare,un,hok,fly,A0,eA,hR⟩:=hq
  cases eA
  exact⟨y,C',a0,σ,H2,H',s2,ey,I2,os,bare,un,hok,fly,hR⟩
 | ok fl =>
  cases fl with
  | ret u =>
   obtain⟨v,H',I',rv,q'⟩:=I2.after hq
   exact aR_ I' hN hi hx rv (fun s2 I2=>⟨_,H',I2,q'⟩) hf
  | next=>exact False.elim hq
  | brk=>exact False.elim hq
  | cont=>exact False.elim hq
theorem mH_{pl:Sem Bool}(c:Cls X.K C)(D:MDef1 X.prog X.w X.K X.mg X.base k C m ps sp)(hN:X.N.Nodup)(hi:X.N[i]?=some n)(hx:Loc X.env.scope n)(hr:Room k X.A)(ho:PE X.nox o ta)
  (ht:eval (.Call (.Attribute o m apos) [] [] pos) X.env=(do
   let ov <-eval o X.env
   standAt apos.atName
   let (f,first) <-holding [ov] (getMethod ov m pl)
   callWith pos f first (backTo pos (starEach [] X.env)) (backToKw pos (keywordEach [] X.env))):=by rfl)
  (hs:swapsWith (.Call (.Attribute o m apos) [] [] pos) (some (.Name n pn)) spos.line X.env=pure false:=by rfl) (hf:X.fn n=true\/X.env.scope.names.lookup n=some .local:=by first | exact .inl rfl | exact .inr rfl | assumption):PX X (.Assign [.Name n pn] (.Call (.Attribute o m apos) [] [] pos) spos) (xMSet C m sp i ta tNil):=by
 obtain⟨f',fd,F,hm,hb⟩:=D.ex
 intro pins s σ H D R I h
 refine wpAny_Assign_Name ?_ hs
 have hO:wpAny (model X.prog X.w) X.A (eval o X.env) (EP X pins σ fun x H1=>∃a dx fs,x=.ref a/\H1 a=some (.ins C dx fs)/\fs.lookup m=none/\tNil σ H1 fun vs H2=>sp (x::vs) H2 (fun v H3=>D.nx (σ.set i (some v)) H3) (fun C' _ H3=>∃A,C'=.ref A/\R σ A H3)) (XP X pins R) s :=
  wpAny_mono (ho pins s σ H _ (I.wish _) h) (fun u s1 ⟨x,H1,I1,rx,q⟩=>⟨x,H1,I1.unwish,rx,q⟩) fun _ _ z=>False.elim z
 refine PySem.W.methodCall_KW (pl:=pl) (thn hO fun u s1 ⟨x,H1,I1,rx,a,dx,fs,ex,ea,l,q⟩=>?_) ht
 subst ex
 obtain rfl:u=Value.ref a:=rx
 refine aP_ I1 ea c hm l ?_
 have q2:sp [.ref a] H1 (fun v H3=>D.nx (σ.set i (some v)) H3) (fun C' _ H3=>∃A,C'=.ref A/\R σ A H3):=q
 have r':Vals [V.ref a] [Value.ref a]:=.cons rfl .nil
 have hl:([Value.ref a]++[]).length=ps.length:=by rw[List.append_nil,<-r'.length];exact F.len _ _ _ _ q2
 have hbb:=hb s1 [Value.ref a] I1.kIn hl
 rw[List.append_nil] at hbb
 refine PySem.W.callWith_K0 (first:=[.ref a]) I1.kIn hm.kp ?_
 refine wpAny_call (codeAny_mono (F.run X.A X.stack s1 H1 ⟨[Value.ref a],[]⟩ [Value.ref a] [V.ref a] _ _ hr I1.env0 hbb r' q2) fun rs s' hq=>?_)
 cases rs with
 | error er =>
  obtain⟨y,C',a0,H',ey,os,bare,un,hok,fly,A0,eA,hR⟩:=hq
  cases eA
  exact⟨y,C',a0,σ,H1,H',s1,ey,I1,os,bare,un,hok,fly,hR⟩
 | ok fl =>
  cases fl with
  | ret u =>
   obtain⟨v,H',I',rv,q'⟩:=I1.after hq
   exact aR_ I' hN hi hx rv (fun s2 I2=>⟨_,H',I2,q'⟩) hf
  | next=>exact False.elim hq
  | brk=>exact False.elim hq
  | cont=>exact False.elim hq
end
def BadW(c2 c1:Addr)(n:Nat)(pl wt:V)(H:Hp)(E:XK):Prop:=(betw pl 0 ((n:Int)-1)=false/\∀H',Same H H'->E (.ref c2) none H')\/(betw pl 0 ((n:Int)-1)=true/\betw wt (-9) 9=false/\∀H',Same H H'->E (.ref c1) none H')
def eF_(c2 c1:Addr):Sp:=fun vs H _ E=>∃(f a c:Addr) (b:Nat) (ps:List Nat) (ws:List Int) (pl wt:V),vs=[.ref f,pl,wt]/\FrAt H f a c b ps ws/\Thing H pl/\Thing H wt/\BadW c2 c1 ws.length pl wt H E
def dq_(C c2 c1:Addr):Sp:=fun vs H _ E=>∃(kp dx sl:Addr) (as:List AF) (b:Nat) (ps:List Nat) (ini:List (List Int)) (ws:List Int) (pl wt:V),vs=[.ref kp,pl,wt]/\KpAt C H kp dx sl as b ps (ini++[ws])/\Thing H pl/\Thing H wt/\BadW c2 c1 ws.length pl wt H E
def eG_(C c1:Addr):Sp:=fun vs H _ E=>∃(kp dx sl:Addr) (as:List AF) (b:Nat) (ps:List Nat) (ws:List Int),vs=[.ref kp]/\KpAt C H kp dx sl as b ps [ws]/\∀H',Same H H'->E (.ref c1) none H'
section
variable{P:Program}{w:World}{K:PySem.W.Frag}{mg:Str->Option Value}{base:Heap}{C c1 c2:Addr}{newId initId B newId2 initId2 B2:String}{bmB bmB2:List Value}
theorem mR_{f:Addr}{fd:FuncData}(F:Fun K "with_weight" "with_weight" aW_ f fd)(T:Txt mg)(D2:Def P w K mg base 2 "is_between" ["thing","least","greatest"] bH_)(O2:OwnE base c2 newId initId B bmB)(h2:mg "NoPart"=some (.ref c2))(O1:OwnE base c1 newId2 initId2 B2 bmB2)(h1:mg "NoNumber"=some (.ref c1)):FnOk P w K mg base (CX1 P w) 3 f fd ["frame","place","weight"] (eF_ c2 c1):=by
 refine F.ok1 bl_ (fun vs H Q E h=>?_) (fun cdv A outer s H vs Q E hr h=>?_)
 ·obtain⟨f,a,c,b,ps,ws,pl,wt,rfl,_⟩:=h;rfl
 ·obtain⟨f,a,c,b,ps,ws,pl,wt,rfl,G,tp,tw,h⟩:=h
  refine⟨_,b_ (F_ (al_ (ag_ (l_ D2 hr (by rfl) (a_ (pv 1) (a_ e_ (a_ (n_ W_ (lenS T.len (by rfl) (ixt (pv 0) e_)) e_) c_)))))) (h_ (eU_ O2 (by rfl) h2 N_)) q_)
   (b_ (F_ (al_ (ag_ (l_ D2 hr (by rfl) (a_ (pv 2) (a_ (cj_ ax_ e_) (a_ e_ c_)))))) (h_ (eU_ O1 (by rfl) h1 N_)) q_) Q_),?_⟩
  refine⟨_,rfl,_,rfl,qq_ G.tp rfl ⟨c,_,rfl,.inl (SqL.of G.hw),_,_,rfl,rfl,pl,0,_,rfl,tp,_,rfl,?_⟩⟩
  rw[List.length_map]
  rcases h with⟨e,k⟩ | ⟨e,e2,k⟩
  ·rw[e]
   exact iteT (k H (Same.refl _))
  ·rw[e]
   refine iteF ⟨_,rfl,_,rfl,wt,-9,9,rfl,tw,_,rfl,?_⟩
   rw[e2]
   exact iteT (k H (Same.refl _))
theorem jv_{f:Addr}{fd:FuncData}(F:Fun K "weigh" "Keeper.weigh" aC_ f fd)(cl:Cls K C)(nS:aF_ K C "standing")(DW:Def1 P w K mg base 3 "with_weight" ["frame","place","weight"] (spOr fC_ (eF_ c2 c1))):FnOk P w K mg base (CX1 P w) 8 f fd ["self","place","weight"] (dq_ C c2 c1):=by
 refine F.ok1 an_ (fun vs H Q E h=>?_) (fun cdv A outer s H vs Q E hr h=>?_)
 ·obtain⟨kp,dx,sl,as,b,ps,ini,ws,pl,wt,rfl,_⟩:=h;rfl
 ·obtain⟨kp,dx,sl,as,b,ps,ini,ws,pl,wt,rfl,S,tp,tw,h⟩:=h
  have nd:=an_.nd
  obtain⟨ai,x,rfl,hai,G,e⟩:=S.last
  refine⟨_,b_ (j_ (i:=3) nd rfl (Or.inl rfl) (ixl (ck_ (pv 0) rfl) (cj_ ax_ e_))) (b_ (j_ (i:=4) nd rfl (Or.inl rfl) (qx_ DW hr.mo (by rfl) (a_ (pv 3) (a_ (pv 1) (a_ (pv 2) c_))))) Q_),?_⟩
  exact⟨_,rfl,kp,C,dx,_,_,rfl,S.ob,cl,nS,aS_,_,rfl,aI_ S.ls e ⟨_,rfl,_,rfl,_,rfl,.inr ⟨_,_,_,b,ps,ws,pl,wt,rfl,G,tp,tw,h⟩⟩⟩
theorem lj_{f:Addr}{fd:FuncData}(F:Fun K "undo" "Keeper.undo" aX_ f fd)(cl:Cls K C)(DC:MDef P w K mg base 1 C "changes" ["self"] (cd_ C))(O1:OwnE base c1 newId initId B bmB)(h1:mg "NoNumber"=some (.ref c1)):FnOk P w K mg base (CX1 P w) 8 f fd ["self"] (eG_ C c1):=by
 refine F.ok1 bm_ (fun vs H Q E h=>?_) (fun cdv A outer s H vs Q E hr h=>?_)
 ·obtain⟨kp,dx,sl,as,b,ps,ws,rfl,_⟩:=h;rfl
 ·obtain⟨kp,dx,sl,as,b,ps,ws,rfl,S,k⟩:=h
  refine⟨_,b_ (F_ (s_ cn_ (fR_ cl DC hr.mo (pv 0)) e_ (nomark _)) (h_ (eU_ O1 (by rfl) h1 N_)) q_) Q_,?_⟩
  refine⟨_,rfl,kp,dx,_,rfl,S.ob,aL_ (by decide +kernel),kp,dx,sl,as,b,ps,_,rfl,S,rfl,_,rfl,?_⟩
  rw[decide_eq_true (show V.int (((([ws]:List (List Int)).length:Nat):Int)-1)=V.int 0 from rfl)]
  exact iteT (k H (Same.refl _))
end
end Hv
namespace L2
open PySem PySem.Spec PyProof.Rows
section
variable{X:Cx}{e a b:Expr}{te ta tb:TE}
theorem ld_(P:Program)(w:World)(hP:X.prog=P)(hw:X.w=w)(hu:X.A.units+64<cLine):OpR X (compareOp .Eq) (rEqD P w false):=by
 subst hP hw
 exact nZ_ hu
end
section
variable{X:Cx}
end
theorem ix_{X:Cx}{st:Stmt}{t:TS}(h:PS X st t):PS X st (fun D σ H=>∃I:St->Hp->Prop,t {D with nx:=I} σ H/\∀ σ' H',I σ' H'->D.nx σ' H'):=fun pins s σ H D I0 ⟨I,ht,hI⟩=>thn (h pins s σ H _ I0 ht) fun f s' hf=>by
 cases f with
 | next=>obtain⟨σ',H',i,q⟩:=hf;exact⟨σ',H',i,hI _ _ q⟩
 | brk=>exact hf
 | cont=>exact hf
 | ret u=>exact hf
section
variable{prog:Program}{w:World}{A:Around}{E:Value->Shared->Prop}{s:Shared}
end
section
variable{X:Cx}{pos:Pos}
end
end L2
namespace Hv
open PySem L2
def RefL(xs:List V):Prop:=∀v∈xs,∃a,v=V.ref a
def NR(o:HO):Prop:=∀ys,o=.lst ys->¬ RefL ys
def Stay(H H':Hp):Prop:=∀z o,H z=some o->NR o->H' z=some o
theorem bA_{α:Type}(g:α->Addr)(l:List α):RefL (l.map fun x=>V.ref (g x)):=fun v hv=>by
 obtain⟨x,_,rfl⟩:=List.mem_map.mp hv
 exact⟨_,rfl⟩
theorem Kp.stay{H H':Hp}{y:Addr}{xs:List V}(k:Kp [y] H H')(hy:H y=some (.lst xs))(hr:RefL xs):Stay H H':=fun z o e n=>k z o e (fun hz=>by
 rw[List.mem_singleton.mp hz,hy] at e
 exact n xs (Option.some.inj e).symm hr)
theorem fL_{H H':Hp}(s:Same H H'):Stay H H':=fun z o e _=>s z o e
theorem en_{xs:List V}:NR (.tup xs):=fun _ z=>by cases z
theorem qL_{C dx:Addr}{fs:List (Str×V)}:NR (.ins C dx fs):=fun _ z=>by cases z
theorem rv_{kvs:List (Key×V)}:NR (.dK kvs):=fun _ z=>by cases z
theorem iF_{xs:List V}{i:Int}(h:V.int i∈xs):NR (.lst xs):=fun ys z r=>by
 cases z
 obtain⟨a,e⟩:=r _ h
 cases e
theorem qJ_{ps:List Nat}(h:1<=ps.length):NR (.lst (natV ps)):=by
 cases ps with
 | nil=>simp at h
 | cons p q=>exact iF_ (i:=(p:Int)) (by simp[natV])
theorem qK_{ws:List Int}(h:1<=ws.length):NR (.lst (ws.map V.int)):=by
 cases ws with
 | nil=>simp at h
 | cons p q=>exact iF_ (i:=p) (by simp)
theorem FrAt.stay{H H':Hp}{f a c:Addr}{b:Nat}{ps:List Nat}{ws:List Int}(G:FrAt H f a c b ps ws)(s:Stay H H'):FrAt H' f a c b ps ws :=
 ⟨s _ _ G.tp en_,s _ _ G.hp (qJ_ (by have:=G.ok.l2;lia)),s _ _ G.hw (qK_ (by have:=G.ok.wl;have:=G.ok.sum;lia)),G.ok⟩
theorem Store.stay{H H':Hp}{st:Addr}(S:Store H st)(s:Stay H H'):Store H' st:=let ⟨g,c,k,e⟩:=S;⟨g,c,k,s _ _ e (iF_ (i:=g) (by simp))⟩
theorem Store.ne{H:Hp}{st y:Addr}{o:HO}(S:Store H st)(h:H y=some o)(n:∀g c k:Int,o≠.lst [.int g,.int c,.int k]):y≠st:=fun z=>by
 obtain⟨g,c,k,e⟩:=S
 rw[z,e] at h
 exact n g c k (Option.some.inj h).symm
def DT(H:Hp)(x:V):Prop:=x=.non\/(∃t,x=.bl t)\/(∃i,x=.int i)\/(∃s,x=.str s)\/∃a,x=.ref a/\(H a=some (.lst [.int 1])\/H a=some (.tup [.int 1])\/H a=some (.dK []))
theorem DT.stay{H H':Hp}{x:V}(d:DT H x)(s:Stay H H'):DT H' x:=by
 rcases d with h | h | h | h | ⟨a,e,h⟩
 ·exact .inl h
 ·exact .inr (.inl h)
 ·exact .inr (.inr (.inl h))
 ·exact .inr (.inr (.inr (.inl h)))
 ·refine .inr (.inr (.inr (.inr ⟨a,e,?_⟩)))
  rcases h with h | h | h
  ·exact .inl (s _ _ h (iF_ (i:=1) (by simp)))
  ·exact .inr (.inl (s _ _ h en_))
  ·exact .inr (.inr (s _ _ h rv_))
theorem DT.kst{H H':Hp}{x:V}{st:Addr}(d:DT H x)(S:Store H st)(k:Kp [st] H H'):DT H' x:=by
 rcases d with h | h | h | h | ⟨a,e,h⟩
 ·exact .inl h
 ·exact .inr (.inl h)
 ·exact .inr (.inr (.inl h))
 ·exact .inr (.inr (.inr (.inl h)))
 ·refine .inr (.inr (.inr (.inr ⟨a,e,?_⟩)))
  rcases h with h | h | h
  ·exact .inl (k _ _ h (by simpa using S.ne h (by intro _ _ _ z;cases z)))
  ·exact .inr (.inl (k _ _ h (by simpa using S.ne h (by intro _ _ _ z;cases z))))
  ·exact .inr (.inr (k _ _ h (by simpa using S.ne h (by intro _ _ _ z;cases z))))
theorem DT.keep{H H':Hp}{x:V}(d:DT H x)(s:Same H H'):DT H' x:=d.stay (fL_ s)
theorem DT.thing{H:Hp}{x:V}(d:DT H x):Thing H x:=by
 rcases d with rfl | ⟨t,rfl⟩ | ⟨i,rfl⟩ | ⟨s,rfl⟩ | ⟨a,rfl,h⟩
 ·exact .non
 ·exact .bl t
 ·exact .int i
 ·exact .str s
 ·rcases h with h | h | h
  ·exact .lst h
  ·exact .tup h
  ·exact .dK h
def Deed(H:Hp)(dv:V)(d:Option (V×V)):Prop:=(dv=.non/\d=none)\/∃t pl wt,dv=.ref t/\d=some (pl,wt)/\H t=some (.tup [pl,wt])/\DT H pl/\DT H wt
theorem Deed.stay{H H':Hp}{dv:V}{d:Option (V×V)}(D:Deed H dv d)(s:Stay H H'):Deed H' dv d:=by
 rcases D with h | ⟨t,pl,wt,e1,e2,h,d1,d2⟩
 ·exact .inl h
 ·exact .inr ⟨t,pl,wt,e1,e2,s _ _ h en_,d1.stay s,d2.stay s⟩
theorem Deed.keep{H H':Hp}{dv:V}{d:Option (V×V)}(D:Deed H dv d)(s:Same H H'):Deed H' dv d:=D.stay (fL_ s)
theorem Deed.kst{H H':Hp}{dv:V}{d:Option (V×V)}{st:Addr}(D:Deed H dv d)(S:Store H st)(k:Kp [st] H H'):Deed H' dv d:=by
 rcases D with h | ⟨t,pl,wt,e1,e2,h,d1,d2⟩
 ·exact .inl h
 ·exact .inr ⟨t,pl,wt,e1,e2,k _ _ h (by simpa using S.ne h (by intro _ _ _ z;cases z)),d1.kst S k,d2.kst S k⟩
structure StA(H:Hp)(s f a c e:Addr)(ks:List Addr)(b:Nat)(ps:List Nat)(ws:List Int)(hist:List (Nat×Int)):Prop where
 hs:H s=some (.tup [.ref f,.ref e])
 fr:FrAt H f a c b ps ws
 he:H e=some (.lst (ks.map V.ref))
 hl:ks.length=hist.length
 hk:∀(i:Nat) (k:Addr) (h:Nat×Int),ks[i]?=some k->hist[i]?=some h->H k=some (.tup [.int h.1,.int h.2])
theorem StA.keep{H H':Hp}{s f a c e:Addr}{ks:List Addr}{b:Nat}{ps:List Nat}{ws:List Int}{hist:List (Nat×Int)}(S:StA H s f a c e ks b ps ws hist)(t:Same H H'):StA H' s f a c e ks b ps ws hist :=
 ⟨t _ _ S.hs,S.fr.keep t,t _ _ S.he,S.hl,fun i k h h1 h2=>t _ _ (S.hk i k h h1 h2)⟩
def kx_:Sp:=fun vs H Q _=>∃(st s f a c e:Addr) (ks:List Addr) (b:Nat) (ps:List Nat) (ws:List Int) (hist:List (Nat×Int)),vs=[.ref st,.ref s]/\Store H st/\StA H s f a c e ks b ps ws hist/\a≠st/\c≠st/\∀(dv:V) (d:Option (V×V)) (H':Hp),Store H' st->Kp [st] H H'->Deed H' dv d->Q dv H'
def DueW(ws:List Int)(hist:List (Nat×Int))(d:Option (V×V))(wd:Str):Prop:=(d=none/\hist=[]/\wd="number")\/∃pl wt,d=some (pl,wt)/\((betw pl 0 ((ws.length:Int)-1)=false/\wd="part")\/(betw pl 0 ((ws.length:Int)-1)=true/\betw wt (-9) 9=false/\wd="number"))
def DueS(ws:List Int)(hist:List (Nat×Int))(d:Option (V×V))(ws':List Int)(hist':List (Nat×Int)):Prop:=(∃h0 p x,d=none/\hist=h0++[(p,x)]/\hist'=h0/\ws'=ws.set p x)\/∃(p:Nat) (x y:Int),d=some (.int p,.int x)/\p<ws.length/\-9<=x/\x<=9/\ws[p]?=some y/\ws'=ws.set p x/\hist'=hist++[(p,y)]
def HistR(n:Nat)(hist:List (Nat×Int)):Prop:=∀h∈hist,h.1<n/\-9<=h.2/\h.2<=9
def spDue:Sp:=fun vs H Q _=>∃(s f a c e:Addr) (ks:List Addr) (b:Nat) (ps:List Nat) (ws:List Int) (hist:List (Nat×Int)) (dv:V) (d:Option (V×V)),vs=[.ref s,dv]/\StA H s f a c e ks b ps ws hist/\HistR ws.length hist/\hist.length<=1000/\Deed H dv d/\
 (∀(wd:Str) (H':Hp),Same H H'->DueW ws hist d wd->Q (.str wd) H')/\
 (∀(s' f' c' e':Addr) (ks':List Addr) (ws':List Int) (hist':List (Nat×Int)) (H':Hp),Same H H'->DueS ws hist d ws' hist'->StA H' s' f' a c' e' ks' b ps ws' hist'->H c'=none->HistR ws'.length hist'->Q (.ref s') H')
theorem oa_{b:Nat}{ps:List Nat}{ws:List Int}{p:Nat}{x:Int}(ok:FrOk b ps ws)(h1 : -9<=x)(h2:x<=9):FrOk b ps (ws.set p x) :=
 ⟨ok.b2,ok.b16,ok.l2,ok.l4,ok.pr,by rw[List.length_set];exact ok.wl,fun v hv=>by
  rcases List.mem_or_eq_of_mem_set hv with h | h
  ·exact ok.wr v h
  ·subst h;exact⟨h1,h2⟩⟩
theorem ij_{α:Type}{l:List α}{x y:α}{i:Nat}(h:(l++[x])[i]?=some y):(i<l.length/\l[i]?=some y)\/(i=l.length/\y=x):=by
 by_cases hi:i<l.length
 ·rw[List.getElem?_append_left hi] at h;exact .inl ⟨hi,h⟩
 ·have hl:=(List.getElem?_eq_some_iff.mp h).1
  rw[List.length_append,List.length_singleton] at hl
  have e:i=l.length:=by lia
  subst e
  rw[List.getElem?_append_right (Nat.le_refl _)] at h
  simp at h
  exact .inr ⟨rfl,h.symm⟩
theorem dg_{α:Type}{l:List α}(h:1<=l.length):∃ini x,l=ini++[x]:=by
 have h1:l≠[]:=fun z=>by rw[z] at h;simp at h
 exact⟨l.dropLast,l.getLast h1,(List.dropLast_concat_getLast h1).symm⟩
theorem lv_{ts:List Addr}{t:Addr}:atI ((ts++[t]).map V.ref) (-1)=some (V.ref t):=by rw[List.map_append];exact dk_ _ _
theorem nD_(xs:List V)(x:V):cutV (xs++[x]) none (some (-1))=xs:=by
 unfold cutV
 have h1:HT.sIx (xs++[x]).length 0 none=0:=rfl
 have h2:HT.sIx (xs++[x]).length (xs++[x]).length (some (-1))=xs.length:=by
  show(if (-1:Int)<0 then (-1+((xs++[x]).length:Int)).toNat else min (-1:Int).toNat (xs++[x]).length)=xs.length
  rw[if_pos (by decide),List.length_append,List.length_singleton]
  lia
 rw[h1,h2]
 simp
section
variable{P:Program}{w:World}{K:PySem.W.Frag}{mg:Str->Option Value}{base:Heap}{C:Addr}
theorem dw_:FnScope ["thing","low","high"] ["thing","low","high"] (g_ cC_):=⟨rfl,rfl,rfl,by decide +kernel,rfl,by decide +kernel,by decide +kernel⟩
theorem ll_{f:Addr}{fd:FuncData}(F:Fun K "_law_is_from" "_law_is_from" cC_ f fd)(T:Txt mg):FnOk P w K mg base CX0 1 f fd ["thing","low","high"] bH_:=by
 refine F.ok dw_ (fun vs H Q E h=>?_) (fun cdv A outer s H vs Q E hr h=>?_)
 ·obtain⟨x,lo,hi,rfl,_⟩:=h;rfl
 ·obtain⟨x,lo,hi,rfl,ty,k⟩:=h
  have nd:=dw_.nd
  refine⟨_,(h_ (m_ (cl_ (o_ ap_ (by rfl) T.isi boot_isinstance (a_ (pv 0) (a_ (dW_ T.int boot_int) c_))) (cl_ (nY_ (o_ ap_ (by rfl) T.isi boot_isinstance (a_ (pv 0) (a_ (dW_ T.bool boot_bool) c_)))) (cT_ (iz_ fU_ fU_ (pv 1) (pv 0) (pv 2))))))),?_⟩
  cases ty with
  | non=>exact⟨_,rfl,_,_,_,_,rfl,.non,og_,false,rfl,iteF k⟩
  | bl t=>exact⟨_,rfl,_,_,_,_,rfl,.bl t,ol_,true,rfl,iteT ⟨_,rfl,_,_,_,_,rfl,.bl t,om_,true,rfl,_,rfl,iteF k⟩⟩
  | str t=>exact⟨_,rfl,_,_,_,_,rfl,.str t,oe_,false,rfl,iteF k⟩
  | lst e=>exact⟨_,rfl,_,_,_,_,rfl,.lst e,oh_,false,rfl,iteF k⟩
  | tup e=>exact⟨_,rfl,_,_,_,_,rfl,.tup e,oc_,false,rfl,iteF k⟩
  | dK e=>exact⟨_,rfl,_,_,_,_,rfl,.dK e,ok_,false,rfl,iteF k⟩
  | int i =>
   refine⟨_,rfl,_,_,_,_,rfl,.int i,oi_,true,rfl,iteT ⟨_,rfl,_,_,_,_,rfl,.int i,oj_,false,rfl,_,rfl,iteT ?_⟩⟩
   refine⟨_,rfl,_,rfl,_,_,rfl,rfl,_,rfl,?_⟩
   by_cases h1:lo<=i
   ·rw[decide_eq_true h1]
    refine iteT ⟨_,rfl,_,_,rfl,rfl,?_⟩
    have e:betw (.int i) lo hi=decide (i<=hi):=by simp[betw,h1]
    rw[e] at k
    exact k
   ·rw[decide_eq_false h1]
    have e:betw (.int i) lo hi=false:=by simp[betw,h1]
    rw[e] at k
    exact iteF k
theorem scDue:FnScope ["state","deed","frame","early","weights","place","weight","kept"] ["state","deed"] (g_ sDue):=⟨rfl,rfl,rfl,by decide +kernel,rfl,by decide +kernel,by decide +kernel⟩
theorem qE_{f:Addr}{fd:FuncData}(F:Fun K "_law_due" "_law_due" sDue f fd)(T:Txt mg)(d_law_is_from:Def P w K mg base 1 "_law_is_from" ["thing","low","high"] bH_):FnOk P w K mg base CX0 2 f fd ["state","deed"] spDue:=by
 refine F.ok scDue (fun vs H Q E h=>?_) (fun cdv A outer s H vs Q E hr h=>?_)
 ·obtain⟨s,f,a,c,e,ks,b,ps,ws,hist,dv,d,rfl,_⟩:=h;rfl
 ·obtain⟨s,f,a,c,e,ks,b,ps,ws,hist,dv,d,rfl,S,hr0,hl0,D,kw,ks0⟩:=h
  have nd:=scDue.nd
  refine⟨_,(b_ (ch_ (pv 0) (ej_ rfl (z_ (p_ (i:=2) nd rfl (Or.inl rfl)) (z_ (p_ (i:=3) nd rfl (Or.inl rfl)) aY_))))
   (b_ (j_ (i:=4) nd rfl (Or.inl rfl) (R_ aj_ (by rfl) T.list boot_list (a_ (ixt (pv 2) e_) c_)))
   (b_ (F_ (s_ iB_ (pv 1) bs_ (nomark _)) (b_ (F_ (s_ (ld_ P w rfl rfl hr.units) (pv 3) (A_ c_) (nomark _)) (h_ (m_ N_)) q_)
    (b_ (ch_ (ixl (pv 3) (cj_ ax_ e_)) (ej_ rfl (z_ (p_ (i:=5) nd rfl (Or.inl rfl)) (z_ (p_ (i:=6) nd rfl (Or.inl rfl)) aY_))))
    (b_ (ch_ (pv 6) (fQ_ (pv 4) (pv 5) ce_))
    (h_ (m_ (ac_ (a_ (ac_ (a_ (ixt (pv 2) e_) (a_ (ixt (pv 2) e_) (a_ (pv 4) c_)))) (a_ (bB_ dt_ (pv 3) eW_ (br_ (cj_ ax_ e_))) c_)))))))) q_)
   (b_ (ch_ (pv 1) (ej_ rfl (z_ (p_ (i:=5) nd rfl (Or.inl rfl)) (z_ (p_ (i:=6) nd rfl (Or.inl rfl)) aY_))))
   (b_ (F_ (al_ (ag_ (l_ d_law_is_from hr (by rfl) (a_ (pv 5) (a_ e_ (a_ (n_ W_ (lenS T.len (by rfl) (pv 4)) e_) c_)))))) (h_ (m_ N_)) q_)
   (b_ (F_ (al_ (ag_ (l_ d_law_is_from hr (by rfl) (a_ (pv 6) (a_ (cj_ ax_ e_) (a_ e_ c_)))))) (h_ (m_ N_)) q_)
   (b_ (j_ (i:=7) nd rfl (Or.inl rfl) (ac_ (a_ (pv 5) (a_ (ixl (pv 4) (pv 5)) c_))))
   (b_ (ch_ (pv 6) (fQ_ (pv 4) (pv 5) ce_))
   (h_ (m_ (ac_ (a_ (ac_ (a_ (ixt (pv 2) e_) (a_ (ixt (pv 2) e_) (a_ (pv 4) c_)))) (a_ (n_ fV_ (pv 3) (A_ (a_ (pv 7) c_))) c_))))))))))))),?_⟩
  have ok:=S.fr.ok
  have hwl:=ok.wl
  have hsm:=ok.sum
  refine⟨_,rfl,s,_,rfl,SqT.of S.hs,rfl,_,_,rfl,_,_,rfl,rfl,?_⟩
  refine⟨_,rfl,_,_,_,_,rfl,rfl,SqT.of S.fr.tp,rfl,⟨c,_,rfl,.inl (SqL.of S.fr.hw),fun wl hwl'=>?_⟩⟩
  have s1:=f_ (o:=.lst (ws.map V.int)) hwl'
  have u1:(upd H wl (.lst (ws.map V.int))) wl=_:=d_
  have S1:=S.keep s1
  have n1:∀ {y:Addr} {o:HO},H y=some o->y≠wl:=fun h z=>by rw[z,hwl'] at h;cases h
  have mv:∀ {o':HO},Same H (upd (upd H wl (.lst (ws.map V.int))) wl o'):=fun {o'} y o h=>by rw[i_ (n1 h),i_ (n1 h)];exact h
  rcases D with⟨rfl,rfl⟩ | ⟨t,pl,wt,rfl,rfl,ht,d1,d2⟩
  ·refine⟨_,rfl,rfl,_,rfl,iteT ?_⟩
   rcases Nat.eq_zero_or_pos hist.length with h0 | h0
   ·have eh:hist=[]:=List.eq_nil_of_length_eq_zero h0
    have ek:ks=[]:=List.eq_nil_of_length_eq_zero (by rw[S.hl];exact h0)
    subst ek
    refine⟨_,rfl,sz (by simp),fun l hl=>?_⟩
    have s2:=f_ (o:=.lst []) hl
    refine L2.bZ_ (datL (s2 _ _ S1.he) .nil) (datL d_ .nil) rfl (by simp[PyData.depth,PyData.depthAll]) ⟨_,rfl,iteT ?_⟩
    exact kw _ _ (s1.trans s2) (.inl ⟨rfl,eh,rfl⟩)
   ·obtain⟨h0',⟨p,x⟩,rfl⟩:=dg_ (l:=hist) h0
    obtain⟨kj,kz,rfl⟩:=dg_ (l:=ks) (by rw[S.hl];exact h0)
    have hlk:kj.length=h0'.length:=by have:=S.hl;simp at this;exact this
    have hkz:=S1.hk kj.length kz (p,x) (by simp) (by rw[hlk];simp)
    have hpx:=hr0 (p,x) (by simp)
    refine⟨_,rfl,sz (by simp),fun l hl=>?_⟩
    have s2:=f_ (o:=.lst []) hl
    have hdt:∃de,Paired (DatV P w (upd (upd H wl (.lst (ws.map V.int))) l (.lst []))) ((kj++[kz]).map V.ref) de/\de≠[]/\PyData.canLayAll0 de=true/\PyData.depthAll de<=1:=by
     have gen:∀(kk:List Addr) (hh:List (Nat×Int)),kk.length=hh.length->(∀(i:Nat) (k:Addr) (h:Nat×Int),kk[i]?=some k->hh[i]?=some h->(upd (upd H wl (.lst (ws.map V.int))) l (.lst [])) k=some (.tup [.int h.1,.int h.2]))->∃de,Paired (DatV P w (upd (upd H wl (.lst (ws.map V.int))) l (.lst []))) (kk.map V.ref) de/\de.length=kk.length/\PyData.canLayAll0 de=true/\PyData.depthAll de<=1:=by
      intro kk
      induction kk with
      | nil=>intro hh _ _;exact⟨[],.nil,rfl,rfl,Nat.zero_le _⟩
      | cons k0 kr ih =>
       intro hh hl' h
       cases hh with
       | nil=>simp at hl'
       | cons g0 gr =>
        obtain⟨de,q1,q2,q3,q4⟩:=ih gr (by simpa using hl') (fun i k h' e1 e2=>h (i+1) k h' (by simpa using e1) (by simpa using e2))
        have e0:=h 0 k0 g0 rfl rfl
        refine⟨.tuple [.int g0.1,.int g0.2]::de,.cons (datT e0 (.cons (datI _) (.cons (datI _) .nil))) q1,by simp[q2],?_,?_⟩
        ·simp[PyData.canLayAll0,PyData.canLay0,q3]
        ·simp only[PyData.depthAll,PyData.depth];lia
     obtain⟨de,q1,q2,q3,q4⟩:=gen (kj++[kz]) (h0'++[(p,x)]) (by simp[hlk]) (fun i k h e1 e2=>s2 _ _ (S1.hk i k h e1 e2))
     exact⟨de,q1,fun z=>by rw[z] at q2;simp at q2,q3,q4⟩
    obtain⟨de,q1,q2,q3,q4⟩:=hdt
    refine⟨.list de,.list [],datL (s2 _ _ S1.he) q1,datL d_ .nil,⟨by simpa [PyData.canLay0] using q3,rfl,by simp only[PyData.depth];lia⟩,?_⟩
    have eq0:PyData.eqv (.list de) (.list [])=false:=by
     cases de with
     | nil=>exact absurd rfl q2
     | cons x y=>simp[PyData.eqv,PyData.eqvAll]
    rw[if_neg (by decide),eq0]
    refine⟨_,rfl,iteF ?_⟩
    have S2:=S1.keep s2
    have u2:=s2 _ _ u1
    have nl1:∀ {y:Addr} {o:HO},H y=some o->y≠l:=fun h z=>by rw[z] at h;rw[s1 _ _ h] at hl;cases hl
    have nwl:wl≠l:=fun z=>by rw[<-z,u1] at hl;cases hl
    generalize upd (upd H wl (.lst (ws.map V.int))) l (.lst [])=H2 at S2 u2 s2 q1⊢
    have T2:=s1.trans s2
    have hkz2:=s2 _ _ hkz
    refine⟨_,rfl,_,rfl,aI_ S2.he lv_ ⟨kz,_,rfl,SqT.of hkz2,rfl,_,_,rfl,_,_,rfl,rfl,?_⟩⟩
    refine⟨_,rfl,_,rfl,_,rfl,wl,_,_,p,rfl,rfl,u2,by rw[List.length_map];exact hG_ hpx.1,?_⟩
    have e3:(ws.map V.int).set p (V.int x)=(ws.set p x).map V.int:=by rw[List.map_set]
    rw[e3]
    have s3:Same H (upd H2 wl (.lst ((ws.set p x).map V.int))):=fun y o h=>by rw[i_ (n1 h)];exact T2 _ _ h
    have u3:(upd H2 wl (.lst ((ws.set p x).map V.int))) wl=_:=d_
    generalize upd H2 wl (.lst ((ws.set p x).map V.int))=H3 at s3 u3⊢
    have S3:=S.keep s3
    refine⟨_,rfl,_,_,_,_,rfl,rfl,SqT.of S3.fr.tp,rfl,_,rfl,_,_,_,_,rfl,rfl,SqT.of S3.fr.tp,rfl,_,rfl,sz (by simp),fun ft hft=>?_⟩
    have s4:=f_ (o:=.tup [.int b,.ref a,.ref wl]) hft
    have u4:(upd H3 ft (.tup [.int b,.ref a,.ref wl])) ft=_:=d_
    generalize upd H3 ft (.tup [.int b,.ref a,.ref wl])=H4 at s4 u4⊢
    have S4:=S3.keep s4
    refine⟨_,rfl,_,rfl,_,rfl,e,_,rfl,SqL.of S4.he,fun el hel=>⟨sz (by simp),fun st' hst'=>?_⟩⟩
    have ecut:cutV ((kj++[kz]).map V.ref) none (some (-1))=kj.map V.ref:=by
     rw[List.map_append]
     exact nD_ _ _
    rw[ecut] at hst'⊢
    have s5:=f_ (o:=.lst (kj.map V.ref)) hel
    have u5:(upd H4 el (.lst (kj.map V.ref))) el=_:=d_
    generalize upd H4 el (.lst (kj.map V.ref))=H5 at s5 u5 hst'⊢
    have s6:=f_ (o:=.tup [.ref ft,.ref el]) hst'
    have T6:=((s3.trans s4).trans s5).trans s6
    refine ks0 _ ft wl el kj (ws.set p x) h0' _ T6 (.inl ⟨h0',p,x,rfl,rfl,rfl,rfl⟩) ⟨d_,⟨s6 _ _ (s5 _ _ u4),T6 _ _ S.fr.hp,s6 _ _ (s5 _ _ (s4 _ _ u3)),oa_ ok hpx.2.1 hpx.2.2⟩,s6 _ _ u5,hlk,fun i k h e1 e2=>?_⟩ hwl' (fun h hh=>by rw[List.length_set];exact hr0 h (List.mem_append_left _ hh))
    refine T6 _ _ (S.hk i k h ?_ ?_)
    ·rw[List.getElem?_append_left (List.getElem?_eq_some_iff.mp e1).1];exact e1
    ·rw[List.getElem?_append_left (List.getElem?_eq_some_iff.mp e2).1];exact e2
  ·have ht1:=s1 _ _ ht
   have d1':=d1.keep s1
   have d2':=d2.keep s1
   have S1':=S1
   generalize upd H wl (.lst (ws.map V.int))=H1 at s1 u1 S1 ht1 d1' d2'⊢
   refine⟨_,rfl,rfl,_,rfl,iteF ?_⟩
   refine⟨_,rfl,t,_,rfl,SqT.of ht1,rfl,_,_,rfl,_,_,rfl,rfl,?_⟩
   refine⟨_,rfl,_,rfl,wl,_,rfl,.inl (SqL.of u1),_,_,rfl,rfl,pl,0,_,rfl,d1'.thing,_,rfl,?_⟩
   rw[List.length_map]
   cases e1:betw pl 0 ((ws.length:Int)-1) with
   | false=>exact iteT (kw _ _ s1 (.inr ⟨pl,wt,rfl,.inl ⟨e1,rfl⟩⟩))
   | true =>
    refine iteF ⟨_,rfl,_,rfl,wt,-9,9,rfl,d2'.thing,_,rfl,?_⟩
    cases e2:betw wt (-9) 9 with
    | false=>exact iteT (kw _ _ s1 (.inr ⟨pl,wt,rfl,.inr ⟨e1,e2,rfl⟩⟩))
    | true =>
     obtain⟨p,rfl,hp⟩:∃p:Nat,pl=.int p/\p<ws.length:=by
      cases pl with
      | int i =>
       simp only[betw,Bool.and_eq_true,decide_eq_true_eq] at e1
       exact⟨i.toNat,by rw[Int.toNat_of_nonneg e1.1],by lia⟩
      | _=>cases e1
     obtain⟨x,rfl,hx1,hx2⟩:∃x:Int,wt=.int x/\-9<=x/\x<=9:=by
      cases wt with
      | int i =>
       simp only[betw,Bool.and_eq_true,decide_eq_true_eq] at e2
       exact⟨i,rfl,e2.1,e2.2⟩
      | _=>cases e2
     obtain⟨y,hy⟩:∃y,ws[p]?=some y:=⟨_,List.getElem?_eq_getElem hp⟩
     have hyr:=ok.wr y (List.mem_of_getElem? hy)
     have ey:atI (ws.map V.int) (p:Int)=some (V.int y):=aJ_ (by rw[List.getElem?_map,hy];rfl)
     refine iteF ⟨_,rfl,_,rfl,_,rfl,_,_,_,_,rfl,rfl,SqL.of u1,ey,sz (by simp),fun kt hkt=>?_⟩
     have s2:=f_ (o:=.tup [.int (p:Int),.int y]) hkt
     have u2:(upd H1 kt (.tup [.int (p:Int),.int y])) kt=_:=d_
     have v2:=s2 _ _ u1
     have nkw:kt≠wl:=fun z=>by rw[z,u1] at hkt;cases hkt
     generalize upd H1 kt (.tup [.int (p:Int),.int y])=H2 at s2 u2 v2⊢
     refine⟨_,rfl,_,rfl,_,rfl,wl,_,_,p,rfl,rfl,v2,by rw[List.length_map];exact hG_ hp,?_⟩
     have e3:(ws.map V.int).set p (V.int x)=(ws.set p x).map V.int:=by rw[List.map_set]
     rw[e3]
     have T2:=s1.trans s2
     have s3:Same H (upd H2 wl (.lst ((ws.set p x).map V.int))):=fun y o h=>by rw[i_ (n1 h)];exact T2 _ _ h
     have u3:(upd H2 wl (.lst ((ws.set p x).map V.int))) wl=_:=d_
     have w3:(upd H2 wl (.lst ((ws.set p x).map V.int))) kt=some (.tup [.int (p:Int),.int y]):=by rw[i_ nkw];exact u2
     generalize upd H2 wl (.lst ((ws.set p x).map V.int))=H3 at s3 u3 w3⊢
     have S3:=S.keep s3
     refine⟨_,rfl,_,_,_,_,rfl,rfl,SqT.of S3.fr.tp,rfl,_,rfl,_,_,_,_,rfl,rfl,SqT.of S3.fr.tp,rfl,_,rfl,sz (by simp),fun ft hft=>?_⟩
     have s4:=f_ (o:=.tup [.int b,.ref a,.ref wl]) hft
     have u4:(upd H3 ft (.tup [.int b,.ref a,.ref wl])) ft=_:=d_
     generalize upd H3 ft (.tup [.int b,.ref a,.ref wl])=H4 at s4 u4⊢
     have S4:=S3.keep s4
     refine⟨_,rfl,_,rfl,sz (by simp),fun k1 hk1=>?_⟩
     have s5:=f_ (o:=.lst [V.ref kt]) hk1
     have u5:(upd H4 k1 (.lst [V.ref kt])) k1=_:=d_
     generalize upd H4 k1 (.lst [V.ref kt])=H5 at s5 u5⊢
     have S5:=S4.keep s5
     have hll:=S.hl
     refine⟨e,k1,_,_,rfl,rfl,S5.he,u5,sz (by simp;lia),fun el hel=>⟨sz (by simp),fun st' hst'=>?_⟩⟩
     have s6:=f_ (o:=.lst (ks.map V.ref++[V.ref kt])) hel
     have u6:(upd H5 el (.lst (ks.map V.ref++[V.ref kt]))) el=some (.lst ((ks++[kt]).map V.ref)):=by rw[d_,List.map_append];rfl
     generalize upd H5 el (.lst (ks.map V.ref++[V.ref kt]))=H6 at s6 u6 hst'⊢
     have s7:=f_ (o:=.tup [.ref ft,.ref el]) hst'
     have T7:=((((s3.trans s4).trans s5).trans s6)).trans s7
     have t47:=((s4.trans s5).trans s6).trans s7
     refine ks0 _ ft wl el (ks++[kt]) (ws.set p x) (hist++[(p,y)]) _ T7 (.inr ⟨p,x,y,rfl,hp,hx1,hx2,hy,rfl,rfl⟩) ⟨d_,⟨((s5.trans s6).trans s7) _ _ u4,T7 _ _ S.fr.hp,t47 _ _ u3,oa_ ok hx1 hx2⟩,s7 _ _ u6,by simp[hll],fun i k h e1 e2=>?_⟩ hwl' (fun h hh=>?_)
     ·rcases ij_ e1 with⟨hi,e1⟩ | ⟨rfl,rfl⟩
      ·rw[List.getElem?_append_left (by lia)] at e2
       exact T7 _ _ (S.hk i k h e1 e2)
      ·rw[hll,List.getElem?_append_right (Nat.le_refl _)] at e2
       simp at e2
       subst e2
       exact t47 _ _ w3
     ·rw[List.length_set]
      rcases List.mem_append.mp hh with h1 | h1
      ·exact hr0 h h1
      ·rw[List.mem_singleton.mp h1];exact⟨hp,hyr.1,hyr.2⟩
end
theorem dS_:bootBuiltins "str"=some (.type "str"):=PyProof.Rows.boot_str
theorem od_{K:PySem.W.Frag}:PySem.W.kitOne K (.type "tuple") (.type "str")=some false:=by kernel_rfl
theorem of_{K:PySem.W.Frag}:PySem.W.kitOne K (.type "str") (.type "str")=some true:=by kernel_rfl
theorem lV_{H:Hp}{x:V}{st:Addr}(d:DT H x)(S:Store H st):DT (Off [st] H) x:=by
 rcases d with h | h | h | h | ⟨a,e,h⟩
 ·exact .inl h
 ·exact .inr (.inl h)
 ·exact .inr (.inr (.inl h))
 ·exact .inr (.inr (.inr (.inl h)))
 ·refine .inr (.inr (.inr (.inr ⟨a,e,?_⟩)))
  rcases h with h | h | h
  ·exact .inl (em_ h (by simpa using S.ne h (by intro _ _ _ z;cases z)))
  ·exact .inr (.inl (em_ h (by simpa using S.ne h (by intro _ _ _ z;cases z))))
  ·exact .inr (.inr (em_ h (by simpa using S.ne h (by intro _ _ _ z;cases z))))
theorem lW_{H:Hp}{i:Int}:DT H (.int i):=.inr (.inr (.inl ⟨i,rfl⟩))
def ow_:Stmt->Expr
 | .Assign _ e _=>e
 | .Return (some e) _=>e
 | _=>.Constant .none 0 ⟨0,0,0,0⟩
theorem qa_{X:Cx}{rest:List Stmt}{t t':TS}(h:PSs X rest t)(w:∀D σ H,t' D σ H->t D σ H):PSs X rest t':=fun pins s σ H D I q=>h pins s σ H D I (w D σ H q)
def dtP(D:List Addr):PP D:=⟨fun H v=>DT (Off D H) v,fun _ _ _ k h=>h.keep (qG_ k)⟩
section
variable{X:Cx}{d:Addr}{ps:List (Option (PP [d]))}{e a b:Expr}{es:List Expr}{pos:Pos}
theorem rk_{t:Bool}{j:_}:ET X d ps (.Constant (.bool t) j pos) (dtP _):=nx_ cH_ fun _=>.inr (.inl ⟨_,rfl⟩)
theorem ri_{j:_}:ET X d ps (.Constant .none j pos) (dtP _):=nx_ bs_ fun _=>.inl rfl
theorem rh_{x:Str}{j:_}:ET X d ps (.Constant (.str x) j pos) (dtP _):=nx_ N_ fun _=>.inr (.inr (.inr (.inl ⟨_,rfl⟩)))
theorem dX_{lo hi:Int}:Le (D:=[d]) (inP _ lo hi) (dtP _):=fun H v ⟨i,e,_,_⟩=>.inr (.inr (.inl ⟨i,e⟩))
theorem rj_:ET X d ps (.Dict [] [] pos) (dtP _):=weakT de_ fun σ H Q c k q=>fun z hz'=>q _ _ (k.keep (f_ hz')) (Kp.of (f_ hz')) (.inr (.inr (.inr (.inr ⟨z,rfl,.inr (.inr (em_ d_ (k.off1 hz')))⟩))))
theorem pL_{j:_}{q1:Pos}:ET X d ps (.List [.Constant (.int 1) j q1] pos) (dtP _):=weakT (A_ (a_ e_ c_)) fun σ H Q c k q=>⟨sz (by decide),fun z hz'=>q _ _ (k.keep (f_ hz')) (Kp.of (f_ hz')) (.inr (.inr (.inr (.inr ⟨z,rfl,.inl (em_ d_ (k.off1 hz'))⟩))))⟩
theorem pI_{j x1:_}{q1:Pos}:ET X d ps (.Tuple [.Constant (.int 1) j q1] x1 pos) (dtP _):=weakT (ac_ (a_ e_ c_)) fun σ H Q c k q=>⟨sz (by decide),fun z hz'=>q _ _ (k.keep (f_ hz')) (Kp.of (f_ hz')) (.inr (.inr (.inr (.inr ⟨z,rfl,.inr (.inl (em_ d_ (k.off1 hz')))⟩))))⟩
theorem hl_{pp:(d:Addr)->List (Option (PP [d]))}{R:(d:Addr)->PP [d]}(h:∀d,ET X d (pp d) e (R d)):PE X e (fun σ H Q=>∃d,tT d (pp d) (R d) σ H Q):=fun pins s σ H Q I ⟨d,q⟩=>h d pins s σ H Q I q
end
abbrev namD:List Str:=["store","state","frame","early","size","way","place","weight","odd"]
abbrev XD(P:Program)(w:World)(K:PySem.W.Frag)(mg:Str->Option Value)(base:Heap)(f:Addr)(cdv:Value)(A:Around)(outer:List Env)(s:Shared)(H:Hp)(E:XK):Cx:=Cx.nox (cxOf CX0 P w K mg base namD "_law_deed" (g_ L_) f cdv A outer s H E)
abbrev stD(i:Nat):Stmt:=(v_ L_).getD i (.Pass ⟨0,0,0,0⟩)
def qZ_:Stmt->List Stmt
 | .If _ b _ _=>b
 | _=>[]
abbrev stI(i:Nat):Stmt:=(qZ_ (stD i)).getD 0 (.Pass ⟨0,0,0,0⟩)
section
variable{P:Program}{w:World}{K:PySem.W.Frag}{mg:Str->Option Value}{base:Heap}{f:Addr}{cdv:Value}{A:Around}{outer:List Env}{s:Shared}{H:Hp}{E:XK}{d:Addr}
theorem pO_(D1:Def P w K mg base 1 "_law_take" ["store","many"] bg_)(hr:Room 1 (XD P w K mg base f cdv A outer s H E).A):ET (XD P w K mg base f cdv A outer s H E) d [some (rfP _ d),none,none,none,some (inP _ 0 24),none,none,none,some (dtP _)] (ow_ (stI 7)) (dtP _):=by
 refine e_ix (l1:=6) (h1:=6) (j:=5) (It:=dtP _) ?_ (es_ D1 hr (by rfl) (cJ_ 0 (pv 0)) dY_)
 refine pM_ (It:=dtP _) (m:=6) ?_
 refine S_ (It:=dtP _) (m:=5) ?_ ?_
 ·exact e_up (cJ_ 4 (pv 4)) dX_
 refine S_ (It:=dtP _) (m:=4) ?_ ?_
 ·exact e_up pK_ dX_
 refine S_ (It:=dtP _) (m:=3) ?_ ?_
 ·exact cJ_ 8 (pv 8)
 refine S_ (It:=dtP _) (m:=2) ?_ ?_
 ·exact e_up (rl_ (cJ_ 4 (pv 4)) (es_ D1 hr (by rfl) (cJ_ 0 (pv 0)) dY_)) dX_
 refine S_ (It:=dtP _) (m:=1) ?_ ?_
 ·exact e_up (pJ_ dY_ (cJ_ 4 (pv 4))) dX_
 refine S_ (It:=dtP _) (m:=0) ?_ ?_
 ·exact cJ_ 8 (pv 8)
 exact pU_
theorem nC_(D1:Def P w K mg base 1 "_law_take" ["store","many"] bg_)(hr:Room 1 (XD P w K mg base f cdv A outer s H E).A):ET (XD P w K mg base f cdv A outer s H E) d [some (rfP _ d),none,none,none,none,none,none,none,some (dtP _)] (ow_ (stI 8)) (dtP _):=by
 refine e_ix (l1:=6) (h1:=6) (j:=5) (It:=dtP _) ?_ (es_ D1 hr (by rfl) (cJ_ 0 (pv 0)) dY_)
 refine pM_ (It:=dtP _) (m:=6) ?_
 refine S_ (It:=dtP _) (m:=5) ?_ ?_
 ·exact e_up dY_ dX_
 refine S_ (It:=dtP _) (m:=4) ?_ ?_
 ·exact e_up pK_ dX_
 refine S_ (It:=dtP _) (m:=3) ?_ ?_
 ·exact cJ_ 8 (pv 8)
 refine S_ (It:=dtP _) (m:=2) ?_ ?_
 ·exact cJ_ 8 (pv 8)
 refine S_ (It:=dtP _) (m:=1) ?_ ?_
 ·exact e_up (rl_ dY_ (es_ D1 hr (by rfl) (cJ_ 0 (pv 0)) dY_)) dX_
 refine S_ (It:=dtP _) (m:=0) ?_ ?_
 ·exact e_up (pJ_ pK_ (es_ D1 hr (by rfl) (cJ_ 0 (pv 0)) dY_)) dX_
 exact pU_
@[irreducible] def kD:Expr:=(.List [(.Constant (.bool true) 0 ⟨313,11,313,15⟩),(.Constant (.bool false) 0 ⟨313,17,313,22⟩),(.Constant .none 0 ⟨313,24,313,28⟩),(.Constant (.str "1") 0 ⟨313,30,313,33⟩),(.List [(.Constant (.int 1) 0 ⟨313,36,313,37⟩)] ⟨313,35,313,38⟩),(.Tuple [(.Constant (.int 1) 0 ⟨313,41,313,42⟩)] 0 ⟨313,40,313,44⟩),(.Dict [] [] ⟨313,46,313,48⟩),(.BinOp (.Constant (.int 10) 0 ⟨313,50,313,52⟩) .Pow (.Constant (.int 25) 0 ⟨313,56,313,58⟩) ⟨313,50,313,58⟩),(.BinOp (.Constant (.int 0) 0 ⟨313,60,313,61⟩) .Sub (.BinOp (.Constant (.int 10) 0 ⟨313,64,313,66⟩) .Pow (.Constant (.int 25) 0 ⟨313,70,313,72⟩) ⟨313,64,313,72⟩) ⟨313,60,313,72⟩)] ⟨313,10,313,73⟩)
theorem qU_:kD=(.List [(.Constant (.bool true) 0 ⟨313,11,313,15⟩),(.Constant (.bool false) 0 ⟨313,17,313,22⟩),(.Constant .none 0 ⟨313,24,313,28⟩),(.Constant (.str "1") 0 ⟨313,30,313,33⟩),(.List [(.Constant (.int 1) 0 ⟨313,36,313,37⟩)] ⟨313,35,313,38⟩),(.Tuple [(.Constant (.int 1) 0 ⟨313,41,313,42⟩)] 0 ⟨313,40,313,44⟩),(.Dict [] [] ⟨313,46,313,48⟩),(.BinOp (.Constant (.int 10) 0 ⟨313,50,313,52⟩) .Pow (.Constant (.int 25) 0 ⟨313,56,313,58⟩) ⟨313,50,313,58⟩),(.BinOp (.Constant (.int 0) 0 ⟨313,60,313,61⟩) .Sub (.BinOp (.Constant (.int 10) 0 ⟨313,64,313,66⟩) .Pow (.Constant (.int 25) 0 ⟨313,70,313,72⟩) ⟨313,64,313,72⟩) ⟨313,60,313,72⟩)] ⟨313,10,313,73⟩):=by unfold kD;rfl
abbrev pz_:Expr:=.Subscript kD (.Call (.Name "_law_take" ⟨313,74,313,83⟩) [(.Name "store" ⟨313,84,313,89⟩),(.Constant (.int 9) 0 ⟨313,91,313,92⟩)] [] ⟨313,74,313,93⟩) ⟨313,10,313,94⟩
theorem pA_:v_ L_=(v_ L_).getD 0 (.Pass ⟨0,0,0,0⟩)::(v_ L_).getD 1 (.Pass ⟨0,0,0,0⟩)::(v_ L_).getD 2 (.Pass ⟨0,0,0,0⟩)::(v_ L_).getD 3 (.Pass ⟨0,0,0,0⟩)::(v_ L_).getD 4 (.Pass ⟨0,0,0,0⟩)::(v_ L_).getD 5 (.Pass ⟨0,0,0,0⟩)::.Assign [(.Name "odd" ⟨313,4,313,7⟩)] pz_ ⟨313,4,313,94⟩::(v_ L_).drop 7:=by unfold pz_;rw[qU_];rfl
theorem rz_(D1:Def P w K mg base 1 "_law_take" ["store","many"] bg_)(hr:Room 1 (XD P w K mg base f cdv A outer s H E).A):ET (XD P w K mg base f cdv A outer s H E) d [some (rfP _ d),none,none,none,none,none,none,none,none] pz_ (dtP _):=by
 refine e_ix (l1:=9) (h1:=9) (j:=8) (It:=dtP _) ?_ (es_ D1 hr (by rfl) (cJ_ 0 (pv 0)) dY_)
 rw[qU_]
 refine pM_ (It:=dtP _) (m:=9) ?_
 refine S_ (It:=dtP _) (m:=8) ?_ ?_
 ·exact rk_
 refine S_ (It:=dtP _) (m:=7) ?_ ?_
 ·exact rk_
 refine S_ (It:=dtP _) (m:=6) ?_ ?_
 ·exact ri_
 refine S_ (It:=dtP _) (m:=5) ?_ ?_
 ·exact rh_
 refine S_ (It:=dtP _) (m:=4) ?_ ?_
 ·exact pL_
 refine S_ (It:=dtP _) (m:=3) ?_ ?_
 ·exact pI_
 refine S_ (It:=dtP _) (m:=2) ?_ ?_
 ·exact rj_
 refine S_ (It:=dtP _) (m:=1) ?_ ?_
 ·exact e_up lQ_ dX_
 refine S_ (It:=dtP _) (m:=0) ?_ ?_
 ·exact e_up (pJ_ dY_ lQ_) dX_
 exact pU_
end
abbrev namA:List Str:=["keeper","deed","due","caught","found","e"]
abbrev XA(P:Program)(w:World)(K:PySem.W.Frag)(mg:Str->Option Value)(base:Heap)(f:Addr)(cdv:Value)(A:Around)(outer:List Env)(s:Shared)(H:Hp)(E:XK):Cx:=Cx.nox (cxOf CX0 P w K mg base namA "_law_asked" (g_ bp_) f cdv A outer s H E)
abbrev stA(i:Nat):Stmt:=(v_ bp_).getD i (.Pass ⟨0,0,0,0⟩)
theorem kI_:FnScope namA ["keeper","deed","due"] (g_ bp_):=⟨rfl,rfl,rfl,by decide +kernel,rfl,by decide +kernel,by decide +kernel⟩
def tAT(K:PySem.W.Frag)(c:Nat->Addr):TS:=fun D σ H=>(σ[3]?=some (some .non)/\∃t xs,σ[4]?=some (some (.ref t))/\H t=some (.tup xs)/\∀H',Same H H'->D.rt (.ref t) H')\/(∃x C,∃i:Nat,∃wd word:Str,σ[3]?=some (some (.ref x))/\σ[2]?=some (some (.str word))/\H x=some (excO x C)/\Kind K c C i/\aw_[i]?=some wd/\PyData.canLay0 (.str word)=true/\∀H',Same H H'->D.rt (.str (if wd=word then word else "other")) H')
def gT_(C:Addr):Sp:=fun vs H Q _=>∃(kp dx sl:Addr) (as:List AF) (b:Nat) (ps:List Nat) (ini:List (List Int)) (ws:List Int) (hist:List (Nat×Int)) (dv u:V) (d:Option (V×V)),vs=[.ref kp,dv,u]/\KpAt C H kp dx sl as b ps (ini++[ws])/\hist.length=ini.length/\ini.length<=900/\Deed H dv d/\
 (∀(i0:List (List Int)) (wz:List Int) (ai:List AF) (t:Addr) (H':Hp),d=none->ini=i0++[wz]->(∀x∈ai,x∈as)->H t=none->H' t=some (.tup [.int (evN b ps ws),.int (evN b ps wz)])->KpAt C H' kp dx sl ai b ps (i0++[wz])->Kp [sl] H H'->Q (.ref t) H')/\
 (∀(p:Nat) (x:Int) (t:Addr) (xn:AF) (H':Hp),d=some (.int p,.int x)->p<ws.length->-9<=x->x<=9->H t=none->H' t=some (.tup [.int (evN b ps ws),.int (evN b ps (ws.set p x))])->H xn.2.1=none->H xn.2.2=none->KpAt C H' kp dx sl (as++[xn]) b ps (ini++[ws]++[ws.set p x])->Kp [sl] H H'->Q (.ref t) H')/\
 (∀wd:Str,DueW ws hist d wd->∃word:Str,u=.str word/\PyData.canLay0 (.str word)=true/\∀H',Same H H'->Q (.str (if wd=word then word else "other")) H')
section
variable{P:Program}{w:World}{K:PySem.W.Frag}{mg:Str->Option Value}{base:Heap}{C:Addr}{c:Nat->Addr}
theorem fJ_:FnScope ["store","state","frame","early","size","way","place","weight","odd"] ["store","state"] (g_ L_):=⟨rfl,rfl,rfl,by decide +kernel,rfl,by decide +kernel,by decide +kernel⟩
theorem pl_{f:Addr}{fd:FuncData}(F:Fun K "_law_deed" "_law_deed" L_ f fd)(T:Txt mg)(d_law_take:Def P w K mg base 1 "_law_take" ["store","many"] bg_):FnOk P w K mg base CX0 2 f fd ["store","state"] kx_:=by
 refine F.ok fJ_ (fun vs H Q E h=>?_) (fun cdv A outer s H vs Q E hr h=>?_)
 ·obtain⟨st,s,f,a,c,e,ks,b,ps,ws,hist,rfl,_⟩:=h;rfl
 ·obtain⟨st,sa,fa,a,c,e,ks,b,ps,ws,hist,rfl,E0,S,na,nc,k⟩:=h
  have nd:=fJ_.nd
  have hr1:Room 1 (XD P w K mg base f cdv A outer s H E).A:=hr
  rw[pA_]
  refine⟨_,(b_ (ch_ (pv 1) (ej_ rfl (z_ (p_ (i:=2) nd rfl (Or.inl rfl)) (z_ (p_ (i:=3) nd rfl (Or.inl rfl)) aY_))))
   (b_ (j_ (i:=4) nd rfl (Or.inl rfl) (lenS T.len (by rfl) (ixt (pv 2) e_)))
   (b_ (j_ (i:=5) nd rfl (Or.inl rfl) (l_ d_law_take hr (by rfl) (a_ (pv 0) (a_ e_ c_))))
   (b_ (F_ (s_ lb_ (pv 5) e_ (nomark _)) (h_ (m_ bs_)) q_)
   (b_ (j_ (i:=6) nd rfl (Or.inl rfl) (l_ d_law_take hr (by rfl) (a_ (pv 0) (a_ (pv 4) c_))))
   (b_ (j_ (i:=7) nd rfl (Or.inl rfl) (ixl (A_ (a_ (n_ W_ (l_ d_law_take hr (by rfl) (a_ (pv 0) (a_ e_ c_))) e_) (a_ (n_ W_ (l_ d_law_take hr (by rfl) (a_ (pv 0) (a_ e_ c_))) e_) (a_ e_ (a_ (ixl (ixt (pv 2) e_) (pv 6)) c_))))) (l_ d_law_take hr (by rfl) (a_ (pv 0) (a_ e_ c_)))))
   (b_ (j_ (i:=8) nd rfl (Or.inl rfl) (hl_ fun d=>rz_ (d:=d) d_law_take hr1))
   (b_ (ix_ (F_ (s_ cn_ (pv 5) e_ (nomark _)) (h_ (j_ (i:=6) nd rfl (Or.inl rfl) (hl_ fun d=>pO_ (d:=d) d_law_take hr1))) q_))
   (b_ (ix_ (F_ (PW.pt (eR_ (s_ cn_ (pv 5) e_ (nomark _)) (cR_ (PW.pt (iu_ (s_ cn_ (pv 5) e_ (nomark _)) (eS_ (s_ cn_ (l_ d_law_take hr (by rfl) (a_ (pv 0) (a_ e_ c_))) e_ (nomark _)))))))) (h_ (j_ (i:=7) nd rfl (Or.inl rfl) (hl_ fun d=>nC_ (d:=d) d_law_take hr1))) q_))
   (h_ (m_ (ac_ (a_ (pv 6) (a_ (pv 7) c_)))))))))))))),?_⟩
  have ok:=S.fr.ok
  have hwl:=ok.wl
  have hsm:=ok.sum
  refine⟨_,rfl,sa,_,rfl,SqT.of S.hs,rfl,_,_,rfl,_,_,rfl,rfl,?_⟩
  refine⟨_,rfl,_,_,_,_,rfl,rfl,SqT.of S.fr.tp,rfl,c,_,rfl,.inl (SqL.of S.fr.hw),?_⟩
  rw[List.length_map]
  refine⟨_,rfl,st,8,rfl,E0,by decide,by decide,fun r1 H1 r10 r11 E1 k1=>?_⟩
  refine⟨_,rfl,_,_,rfl,rfl,_,rfl,ite2 (fun _=>k .non none H1 E1 k1 (.inl ⟨rfl,rfl⟩)) (fun _=>?_)⟩
  refine⟨_,rfl,_,rfl,st,_,rfl,E1,by lia,by lia,fun r2 H2 r20 r21 E2 k2=>?_⟩
  obtain⟨p,rfl⟩:∃p:Nat,r2=(p:Int):=⟨r2.toNat,by lia⟩
  obtain⟨y,hy⟩:∃y,ws[p]?=some y:=⟨_,List.getElem?_eq_getElem (by lia)⟩
  have ey:atI (ws.map V.int) (p:Int)=some (V.int y):=aJ_ (by rw[List.getElem?_map,hy];rfl)
  refine⟨_,rfl,st,19,rfl,E2,by decide,by decide,fun r3 H3 r30 r31 E3 k3=>⟨_,_,rfl,rfl,_,rfl,st,19,rfl,E3,by decide,by decide,fun r4 H4 r40 r41 E4 k4=>?_⟩⟩
  have K4:=((k1.trans k2).trans k3).trans k4
  have G4:=S.fr.kps E0 na nc K4
  refine⟨_,_,rfl,rfl,_,rfl,_,_,_,_,rfl,rfl,SqT.of G4.tp,rfl,_,rfl,_,_,_,_,rfl,rfl,SqL.of G4.hw,ey,sz (by simp),fun l hl=>?_⟩
  have t5:=f_ (o:=.lst ([r3-9,r4-9,1,y].map V.int)) hl
  have u5:(upd H4 l (.lst ([r3-9,r4-9,1,y].map V.int))) l=_:=d_
  have nls:l∉[st]:=E4.off1 hl
  have e5:upd H4 l (.lst [V.int (r3-9),V.int (r4-9),V.int 1,V.int y])=upd H4 l (.lst ([r3-9,r4-9,1,y].map V.int)):=rfl
  have E5:=E4.keep t5
  have K5:=K4.same t5
  rw[e5]
  generalize upd H4 l (.lst ([r3-9,r4-9,1,y].map V.int))=H5 at t5 u5 E5 K5⊢
  refine⟨_,rfl,st,4,rfl,E5,by decide,by decide,fun r5 H6 r50 r51 E6 k6=>?_⟩
  obtain⟨wv,ewv,_⟩:=cK_ (ns:=[r3-9,r4-9,1,y]) (i:=r5) (Pr:=fun _=>True) r50 r51 (fun _ _=>trivial)
  refine aI_ (k6 _ _ u5 nls) ewv ?_
  have K6:=K5.trans k6
  refine⟨st,.cons (fun P e=>by cases e;exact⟨_,rfl,rfl⟩) (.cons (fun P e=>by cases e) (.cons (fun P e=>by cases e) (.cons (fun P e=>by cases e) (.cons (fun P e=>by cases e) (.cons (fun P e=>by cases e) (.cons (fun P e=>by cases e) (.cons (fun P e=>by cases e) (.cons (fun P e=>by cases e) .nil)))))))),E6,fun od H11 E11 k11 ho=>?_⟩
  have K11:Kp [st] H H11:=K6.trans k11
  have ho11:DT H11 od:=DT.keep ho fd_
  refine⟨fun σ H'=>∃pl,σ=[some (.ref st),some (.ref sa),some (.ref fa),some (.ref e),some (.int (ws.length:Int)),some (.int r1),some pl,some (.int wv),some od]/\DT H' pl/\DT H' od/\Store H' st/\Kp [st] H H',?if1,?tl1⟩
  case if1 =>
   refine⟨_,rfl,rfl,_,rfl,ite2 (fun _=>?_) (fun _=>⟨_,rfl,lW_,ho11,E11,K11⟩)⟩
   refine⟨st,.cons (fun P e=>by cases e;exact⟨_,rfl,rfl⟩) (.cons (fun P e=>by cases e) (.cons (fun P e=>by cases e) (.cons (fun P e=>by cases e) (.cons (fun P e=>by cases e;exact⟨_,rfl,⟨_,rfl,by lia,by lia⟩⟩) (.cons (fun P e=>by cases e) (.cons (fun P e=>by cases e) (.cons (fun P e=>by cases e) (.cons (fun P e=>by cases e;exact⟨_,rfl,lV_ ho11 E11⟩) .nil)))))))),E11,fun pl H14 E14 k14 hp=>?_⟩
   exact⟨pl,rfl,DT.keep hp fd_,ho11.kst E11 k14,E14,K11.trans k14⟩
  rintro σ H12 ⟨pl,rfl,hp,ho12,E12,K12⟩
  refine⟨fun σ H'=>∃wt,σ=[some (.ref st),some (.ref sa),some (.ref fa),some (.ref e),some (.int (ws.length:Int)),some (.int r1),some pl,some wt,some od]/\DT H' pl/\DT H' wt/\Store H' st/\Kp [st] H H',?if2,?tl2⟩
  case if2 =>
   refine⟨_,rfl,rfl,_,rfl,ite2 (fun _=>iteT ?_) (fun _=>⟨_,rfl,rfl,_,rfl,ite2 (fun _=>⟨_,rfl,st,2,rfl,E12,by decide,by decide,fun q0 H13 q00 q01 E13 k13=>⟨rfl,_,rfl,ite2 (fun _=>?_) (fun _=>⟨_,rfl,hp.kst E12 k13,lW_,E13,K12.trans k13⟩)⟩⟩) (fun _=>iteF ⟨_,rfl,hp,lW_,E12,K12⟩)⟩)⟩
   ·refine⟨st,.cons (fun P e=>by cases e;exact⟨_,rfl,rfl⟩) (.cons (fun P e=>by cases e) (.cons (fun P e=>by cases e) (.cons (fun P e=>by cases e) (.cons (fun P e=>by cases e) (.cons (fun P e=>by cases e) (.cons (fun P e=>by cases e) (.cons (fun P e=>by cases e) (.cons (fun P e=>by cases e;exact⟨_,rfl,lV_ ho12 E12⟩) .nil)))))))),E12,fun wt H14 E14 k14 hw=>?_⟩
    exact⟨wt,rfl,hp.kst E12 k14,DT.keep hw fd_,E14,K12.trans k14⟩
   ·refine⟨st,.cons (fun P e=>by cases e;exact⟨_,rfl,rfl⟩) (.cons (fun P e=>by cases e) (.cons (fun P e=>by cases e) (.cons (fun P e=>by cases e) (.cons (fun P e=>by cases e) (.cons (fun P e=>by cases e) (.cons (fun P e=>by cases e) (.cons (fun P e=>by cases e) (.cons (fun P e=>by cases e;exact⟨_,rfl,lV_ (ho12.kst E12 k13) E13⟩) .nil)))))))),E13,fun wt H14 E14 k14 hw=>?_⟩
    exact⟨wt,rfl,(hp.kst E12 k13).kst E13 k14,DT.keep hw fd_,E14,(K12.trans k13).trans k14⟩
  rintro σ H13 ⟨wt,rfl,hp13,hw13,E13,K13⟩
  refine⟨_,rfl,_,rfl,sz (by simp),fun t ht=>?_⟩
  have t14:=f_ (o:=.tup [pl,wt]) ht
  exact k _ (some (pl,wt)) _ (E13.keep t14) (K13.same t14) (.inr ⟨t,pl,wt,rfl,rfl,d_,hp13.keep t14,hw13.keep t14⟩)
theorem jV_{f:Addr}{cdv:Value}{A:Around}{outer:List Env}{s:Shared}{H:Hp}{E:XK}(T:Txt mg)(nstr:mg "str"=none)(DK:Def P w K mg base 1 "_law_kind" ["e","due"] (ih_ K c))(hr:Room 1 (XA P w K mg base f cdv A outer s H E).A):PSs (XA P w K mg base f cdv A outer s H E) [stA 3,stA 4] (tAT K c):=by
 refine qa_ (b_ (F_ (s_ iB_ (pv 3) bs_ (nomark _)) (h_ (m_ (ixl (A_ (a_ (pv 4) (a_ N_ c_))) (R_ cu_ (by rfl) T.int boot_int (a_ (o_ ap_ (by rfl) T.isi boot_isinstance (a_ (pv 4) (a_ (dW_ nstr dS_) c_))) c_))))) q_)
  (h_ (m_ (ixl (A_ (a_ N_ (a_ (pv 2) c_))) (R_ cu_ (by rfl) T.int boot_int (a_ (cl_ (o_ ap_ (by rfl) T.isi boot_isinstance (a_ (pv 2) (a_ (dW_ nstr dS_) c_))) (cT_ (l_ DK hr (by rfl) (a_ (pv 3) (a_ (pv 2) c_))))) c_)))))) fun D σ H h=>?_
 rcases h with⟨e3,t,xs,e4,ht,k⟩ | ⟨x,C,i,wd,word,e3,e2,hx,kd,hw,hlay,k⟩
 ·refine⟨_,e3,rfl,_,rfl,iteT ⟨_,e4,sz (by simp),fun l hl=>?_⟩⟩
  have s1:=f_ (o:=.lst [V.ref t,V.str "told"]) hl
  exact⟨_,e4,_,_,_,_,rfl,.tup (s1 _ _ ht),od_,.inr ⟨_,rfl,aI_ d_ rfl (k _ s1)⟩⟩
 ·refine⟨_,e3,rfl,_,rfl,iteF ⟨_,e2,sz (by simp),fun l hl=>?_⟩⟩
  have s1:=f_ (o:=.lst [V.str "other",V.str word]) hl
  have u1:(upd H l (.lst [V.str "other",V.str word])) l=_:=d_
  generalize upd H l (.lst [V.str "other",V.str word])=H1 at s1 u1⊢
  refine⟨_,e2,_,_,_,_,rfl,.str word,of_,true,rfl,iteT ⟨_,e3,_,e2,x,C,i,wd,word,rfl,hlay,s1 _ _ hx,kd,hw,fun H2 s2=>?_⟩⟩
  by_cases hq:wd=word
  ·rw[decide_eq_true hq]
   refine .inr ⟨_,rfl,aI_ (s2 _ _ u1) rfl ?_⟩
   have:=k H2 (s1.trans s2)
   rw[if_pos hq] at this
   exact this
  ·rw[decide_eq_false hq]
   refine .inr ⟨_,rfl,aI_ (s2 _ _ u1) rfl ?_⟩
   have:=k H2 (s1.trans s2)
   rw[if_neg hq] at this
   exact this
theorem nb_{f:Addr}{fd:FuncData}{B:Addr}(F:Fun K "_law_asked" "_law_asked" bp_ f fd)(T:Txt mg)(nstr:mg "str"=none)(hB:mg "HalfError"=some (.ref B))(U1:Up K (c 1) B)(U2:Up K (c 2) B)(k1:Kind K c (c 1) 1)(k2:Kind K c (c 2) 2)(cl:Cls K C)(DK:Def P w K mg base 1 "_law_kind" ["e","due"] (ih_ K c))
  (MU:MDef1 P w K mg base 8 C "undo" ["self"] (spOr (ig_ C) (eG_ C (c 1)))) (MW:MDef1 P w K mg base 8 C "weigh" ["self","place","weight"] (spOr (eC_ C) (dq_ C (c 2) (c 1)))):FnOk P w K mg base CX0 9 f fd ["keeper","deed","due"] (gT_ C):=by
 refine F.ok kI_ (fun vs H Q E h=>?_) (fun cdv A outer s H vs Q E hr h=>?_)
 ·obtain⟨kp,dx,sl,as,b,ps,ini,ws,hist,dv,u,d,rfl,_⟩:=h;rfl
 ·obtain⟨kp,dx,sl,as,b,ps,ini,ws,hist,dv,u,d,rfl,S,hh,hl,D,kU,kW,kB⟩:=h
  have nd:=kI_.nd
  have hr1:Room 1 (XA P w K mg base f cdv A outer s H E).A:=hr.mono (by decide)
  refine⟨_,b_ (j_ (i:=3) nd rfl (Or.inl rfl) bs_) (b_ (j_ (i:=4) nd rfl (Or.inl rfl) bs_)
   (b_ (qr_ (ie:=5) (hh_ (rt_ (s_ iB_ (pv 1) bs_ (nomark _)) (hh_ (mH_ (i:=4) cl MU nd rfl (Or.inl rfl) hr (pv 0))) (hh_ (oX_ (i:=4) cl MW nd rfl (Or.inl rfl) hr (pv 0) (a_ (ixt (pv 1) e_) (a_ (ixt (pv 1) e_) c_)))))) rfl rfl rfl nd rfl (Or.inl rfl) rfl rfl (Or.inl rfl) (by rfl) hB
     (fun v=>h_ (j_ (i:=3) nd rfl (Or.inl rfl) (pv 5))))
   (jV_ T nstr DK hr1))),?_⟩
  have hN:∀(t:Addr) (xs:List V) (H':Hp),H' t=some (.tup xs)->(∀H'',Same H' H''->Q (.ref t) H'')->tAT K c {nx:=fun x H'=>Q V.non H',rt:=Q} [some (.ref kp),some dv,some u,some .non,some (.ref t),none] H':=fun t xs H' h k=>.inl ⟨rfl,t,xs,rfl,h,k⟩
  have hE:∀(j:Nat) (wd:Str),Up K (c j) B->Kind K c (c j) j->aw_[j]?=some wd->DueW ws hist d wd->∀H',Same H H'->∃A,Value.ref (c j)=Value.ref A/\Up K A B/\∀x,H' x=none->∃v,(([some (.ref kp),some dv,some u,some .non,some .non,none]:St).set 5 (some (.ref x)))[5]?=some (some v)/\tAT K c {nx:=fun x H'=>Q V.non H',rt:=Q} (((([some (.ref kp),some dv,some u,some .non,some .non,none]:St).set 5 (some (.ref x))).set 3 (some v)).set 5 none) (upd H' x (excO x A)) :=
   fun j wd U kd hw hd H' s'=>⟨_,rfl,U,fun x hx=>by
    obtain⟨word,e,hlay,k⟩:=kB wd hd
    subst e
    exact⟨_,rfl,.inr ⟨x,c j,j,wd,word,rfl,rfl,d_,kd,hw,hlay,fun H2 s2=>k H2 ((s'.trans (f_ hx)).trans s2)⟩⟩⟩
  refine⟨_,rfl,rfl,_,rfl,?_⟩
  rcases D with⟨rfl,rfl⟩ | ⟨t,pl,wt,rfl,rfl,ht,d1,d2⟩
  ·refine iteT ⟨_,rfl,kp,dx,_,rfl,S.ob,aL_ (by decide +kernel),?_⟩
   rcases Nat.eq_zero_or_pos ini.length with h0 | h0
   ·have ei:ini=[]:=List.eq_nil_of_length_eq_zero h0
    subst ei
    have eh:hist=[]:=List.eq_nil_of_length_eq_zero (by rw[hh];rfl)
    exact .inr ⟨kp,dx,sl,as,b,ps,ws,rfl,S,hE 1 "number" U1 k1 rfl (.inl ⟨rfl,eh,rfl⟩)⟩
   ·obtain⟨i0,wz,rfl⟩:=dg_ (l:=ini) h0
    have hla:=S.len
    simp at hla
    obtain⟨ai,x,rfl⟩:=dg_ (l:=as) (by lia)
    simp at hl
    exact .inl ⟨kp,dx,sl,ai,x,b,ps,i0,wz,ws,rfl,S,by lia,fun t H' nt ht K' k'=>hN t _ H' ht fun H'' s''=>kU i0 wz ai t H'' rfl rfl (fun y hy=>List.mem_append_left _ hy) nt (s'' _ _ ht) (K'.keep s'') (k'.same s'')⟩
  ·refine iteF ⟨_,rfl,kp,dx,_,rfl,S.ob,aL_ (by decide +kernel),_,rfl,_,_,_,_,rfl,rfl,SqT.of ht,rfl,_,rfl,_,_,_,_,rfl,rfl,SqT.of ht,rfl,?_⟩
   cases e1:betw pl 0 ((ws.length:Int)-1) with
   | false=>exact .inr ⟨kp,dx,sl,as,b,ps,ini,ws,pl,wt,rfl,S,d1.thing,d2.thing,.inl ⟨e1,hE 2 "part" U2 k2 rfl (.inr ⟨pl,wt,rfl,.inl ⟨e1,rfl⟩⟩)⟩⟩
   | true =>
    cases e2:betw wt (-9) 9 with
    | false=>exact .inr ⟨kp,dx,sl,as,b,ps,ini,ws,pl,wt,rfl,S,d1.thing,d2.thing,.inr ⟨e1,e2,hE 1 "number" U1 k1 rfl (.inr ⟨pl,wt,rfl,.inr ⟨e1,e2,rfl⟩⟩)⟩⟩
    | true =>
     obtain⟨p,rfl,hp⟩:∃p:Nat,pl=.int p/\p<ws.length:=by
      cases pl with
      | int i =>
       simp only[betw,Bool.and_eq_true,decide_eq_true_eq] at e1
       exact⟨i.toNat,by rw[Int.toNat_of_nonneg e1.1],by lia⟩
      | _=>cases e1
     obtain⟨x,rfl,hx1,hx2⟩:∃x:Int,wt=.int x/\-9<=x/\x<=9:=by
      cases wt with
      | int i =>
       simp only[betw,Bool.and_eq_true,decide_eq_true_eq] at e2
       exact⟨i,rfl,e2.1,e2.2⟩
      | _=>cases e2
     exact .inl ⟨kp,dx,sl,as,b,ps,ini,ws,p,x,rfl,S,hp,hx1,hx2,by lia,fun t' xn H' nt ht' n1 n2 n3 K' k'=>hN t' _ H' ht' fun H'' s''=>kW p x t' xn H'' rfl hp hx1 hx2 nt (s'' _ _ ht') n2 n3 (K'.keep s'') (k'.same s'')⟩
end
end Hv
namespace L2
open PySem PySem.Spec PyProof.Rows
section
variable{X:Cx}
theorem lc_:OpR X (compareOp .IsNot) (fun x y H Q=>∃b c,x=.bl b/\y=.bl c/\Q (.bl (!(b==c))) H):=by
 intro pins s σ H x y v u Q I rx ry h
 obtain⟨b,c,rfl,rfl,q⟩:=h
 cases rx
 cases ry
 refine wpAny_isNot_plain (by cases b <;> cases c <;> rfl) ⟨.bl (!(b==c)),H,I,?_,q⟩
 cases b <;> cases c <;> rfl
end
end L2
namespace Hv
open PySem L2
theorem KpAt.kst{C:Addr}{H H':Hp}{kp dx sl st:Addr}{as:List AF}{b:Nat}{ps:List Nat}{wss:List (List Int)}(K:KpAt C H kp dx sl as b ps wss)(hne:as≠[])(S:Store H st)(k:Kp [st] H H')(ko:∀x∈as,x.2.1≠st/\x.2.2≠st):KpAt C H' kp dx sl as b ps wss:=by
 have n2:sl≠st:=S.ne K.ls (fun g c j z=>by
  injection z with z
  obtain⟨a,e⟩:=bA_ (fun x:AF=>x.1) as (.int g) (by rw[z];simp)
  cases e)
 exact⟨k _ _ K.ob (by simpa using S.ne K.ob (by intro _ _ _ z;cases z)),k _ _ K.ls (by simpa using n2),K.len,fun i x ws h1 h2=>(K.each i x ws h1 h2).kps S (ko x (List.mem_of_getElem? h1)).1 (ko x (List.mem_of_getElem? h1)).2 k⟩
theorem KpAt.ne{C:Addr}{H:Hp}{kp dx sl:Addr}{as:List AF}{b:Nat}{ps:List Nat}{ini:List (List Int)}{ws:List Int}(K:KpAt C H kp dx sl as b ps (ini++[ws])):as≠[]:=fun z=>by have:=K.len;rw[z] at this;simp at this
def kv_:Sp:=fun vs H Q _=>∃(st f a c:Addr) (b:Nat) (ps:List Nat) (ws:List Int),vs=[.ref st,.ref f]/\Store H st/\FrAt H f a c b ps ws/\a≠st/\c≠st/\∀(r:Nat) (H':Hp),Store H' st->Kp [st] H H'->Q (.int r) H'
def kz_(C:Addr):Sp:=fun vs H Q _=>∃(st kp dx sl f a c:Addr) (as:List AF) (b:Nat) (ps:List Nat) (ini:List (List Int)) (ws:List Int),vs=[.ref st,.ref kp,.ref f]/\Store H st/\KpAt C H kp dx sl as b ps (ini++[ws])/\(∀x∈as,x.2.1≠st/\x.2.2≠st)/\FrAt H f a c b ps ws/\a≠st/\c≠st/\∀H',Store H' st->Kp [st] H H'->Q (.bl true) H'
section
variable{P:Program}{w:World}{K:PySem.W.Frag}{mg:Str->Option Value}{base:Heap}{C:Addr}{c:Nat->Addr}
theorem nU_:FnScope ["frame"] ["frame"] (g_ sCopy):=⟨rfl,rfl,rfl,by decide +kernel,rfl,by decide +kernel,by decide +kernel⟩
theorem na_{f:Addr}{fd:FuncData}(F:Fun K "_law_copy" "_law_copy" sCopy f fd)(T:Txt mg):FnOk P w K mg base CX0 1 f fd ["frame"] bk_:=by
 refine F.ok nU_ (fun vs H Q E h=>?_) (fun cdv A outer s H vs Q E hr h=>?_)
 ·obtain⟨f,a,c,b,ps,ws,rfl,_⟩:=h;rfl
 ·obtain⟨f,a,c,b,ps,ws,rfl,G,k⟩:=h
  have nd:=nU_.nd
  refine⟨_,(h_ (m_ (ac_ (a_ (ixt (pv 0) e_) (a_ (R_ aj_ (by rfl) T.list boot_list (a_ (ixt (pv 0) e_) c_)) (a_ (R_ aj_ (by rfl) T.list boot_list (a_ (ixt (pv 0) e_) c_)) c_)))))),?_⟩
  refine⟨_,rfl,_,_,_,_,rfl,rfl,SqT.of G.tp,rfl,⟨_,rfl,_,_,_,_,rfl,rfl,SqT.of G.tp,rfl,⟨a,_,rfl,.inl (SqL.of G.hp),fun a' ha'=>?_⟩⟩⟩
  have s1:=f_ (o:=.lst (natV ps)) ha'
  have u1:(upd H a' (.lst (natV ps))) a'=_:=d_
  generalize upd H a' (.lst (natV ps))=H1 at s1 u1⊢
  refine⟨_,rfl,_,_,_,_,rfl,rfl,SqT.of (s1 _ _ G.tp),rfl,⟨c,_,rfl,.inl (SqL.of (s1 _ _ G.hw)),fun c' hc'=>⟨sz (by simp),fun f' hf'=>?_⟩⟩⟩
  have s2:=f_ (o:=.lst (ws.map V.int)) hc'
  have s3:=f_ (o:=.tup [.int b,.ref a',.ref c']) hf'
  exact k f' a' c' _ (s1.trans (s2.trans s3)) ⟨d_,s3 _ _ (s2 _ _ u1),s3 _ _ d_,G.ok⟩ (s1.free (s2.free hf')) ha' (s1.free hc') (fun z=>by rw[<-z,u1] at hc';cases hc')
theorem nS_:FnScope ["store","frame","far"] ["store","frame"] (g_ sLawD):=⟨rfl,rfl,rfl,by decide +kernel,rfl,by decide +kernel,by decide +kernel⟩
theorem pi_{f:Addr}{fd:FuncData}(F:Fun K "_law_d" "_law_d" sLawD f fd)(T:Txt mg)(d_law_take:Def P w K mg base 1 "_law_take" ["store","many"] bg_):FnOk P w K mg base CX0 2 f fd ["store","frame"] kv_:=by
 refine F.ok nS_ (fun vs H Q E h=>?_) (fun cdv A outer s H vs Q E hr h=>?_)
 ·obtain⟨st,g,a,c,b,ps,ws,rfl,_⟩:=h;rfl
 ·obtain⟨st,g,a,c,b,ps,ws,rfl,S,G,na,nc,k⟩:=h
  have nd:=nS_.nd
  refine⟨_,(b_ (j_ (i:=2) nd rfl (Or.inl rfl) e_)
   (h_ (m_ (ixl (A_ (a_ e_ (a_ e_ (a_ (l_ d_law_take hr (by rfl) (a_ (pv 0) (a_ e_ c_))) (a_ (l_ d_law_take hr (by rfl) (a_ (pv 0) (a_ (pv 2) c_))) (a_ (n_ W_ (n_ el_ e_ e_) (l_ d_law_take hr (by rfl) (a_ (pv 0) (a_ e_ c_)))) c_)))))) (l_ d_law_take hr (by rfl) (a_ (pv 0) (a_ e_ c_))))))),?_⟩
  refine⟨_,rfl,st,12,rfl,S,by decide,by decide,fun r1 H2 r10 r11 S2 k2=>?_⟩
  refine⟨_,rfl,_,rfl,st,1700,rfl,S2,by decide,by decide,fun r2 H3 r20 r21 S3 k3=>?_⟩
  refine⟨_,_,rfl,rfl,⟨by decide,by decide,by decide⟩,_,rfl,st,9,rfl,S3,by decide,by decide,fun r3 H4 r30 r31 S4 k4=>⟨_,_,rfl,rfl,sz (by simp),fun l hl=>?_⟩⟩
  refine⟨_,rfl,st,5,rfl,S4.keep (f_ hl),by decide,by decide,fun r4 H5 r40 r41 S5 k5=>?_⟩
  have h25:(10:Int) ^ (25:Int).toNat=10000000000000000000000000:=by decide
  obtain⟨M,eM,hM⟩:=cK_ (ns:=[0,1,r1,r2,(10:Int) ^ (25:Int).toNat-r3]) (i:=r4) (Pr:=fun n=>0<=n) r40 r41 (by
   intro y hy
   simp only[List.mem_cons,List.not_mem_nil,or_false] at hy
   rcases hy with rfl | rfl | rfl | rfl | rfl <;> lia)
  refine aI_ (k5 l _ d_ (S4.off1 hl)) eM ?_
  obtain⟨r,rfl⟩:∃r:Nat,M=(r:Int):=⟨M.toNat,by lia⟩
  exact k r _ S5 (((k2.trans k3).trans k4).trans ((Kp.of (f_ hl)).trans k5))
theorem dx_:FnScope ["store","keeper","frame","told","d","far","k","found"] ["store","keeper","frame"] (g_ cD_):=⟨rfl,rfl,rfl,by decide +kernel,rfl,by decide +kernel,by decide +kernel⟩
theorem po_{f:Addr}{fd:FuncData}(F:Fun K "_law_as_anew" "_law_as_anew" cD_ f fd)(T:Txt mg)(d_law_take:Def P w K mg base 1 "_law_take" ["store","many"] bg_)(d_law_d:Def P w K mg base 2 "_law_d" ["store","frame"] kv_)(d_count_near:Def P w K mg base 6 "count_near" ["frame","d"] aU_)(d_count_even:Def P w K mg base 7 "count_even" ["frame"] af_)(d_even_by:Def P w K mg base 13 "even_by" ["frame","k"] eJ_)(d_is_even:Def P w K mg base 11 "is_even" ["frame","n"] kw_)(cl:Cls K C)(m_frame:MDef P w K mg base 2 C "frame" ["self"] (db_ C))(m_near:MDef P w K mg base 7 C "near" ["self","d"] (gP_ C))(m_even:MDef P w K mg base 14 C "even" ["self","k"] (gS_ C)):FnOk P w K mg base CX0 15 f fd ["store","keeper","frame"] (kz_ C):=by
 refine F.ok dx_ (fun vs H Q E h=>?_) (fun cdv A outer s H vs Q E hr h=>?_)
 ·obtain⟨st,kp,dx,sl,f,a,c,as,b,ps,ini,ws,rfl,_⟩:=h;rfl
 ·obtain⟨st,kp,dx,sl,f,a,c,as,b,ps,ini,ws,rfl,E0,S,ko,G,na0,nc0,k⟩:=h
  have nd:=dx_.nd
  refine⟨_,(b_ (j_ (i:=3) nd rfl (Or.inl rfl) (fR_ cl m_frame hr.mo (pv 1)))
   (b_ (j_ (i:=4) nd rfl (Or.inl rfl) (l_ d_law_d hr.mo (by rfl) (a_ (pv 0) (a_ (pv 2) c_))))
   (b_ (F_ (PW.pt (eR_ (s_ (eY_ P w rfl rfl hr.units) (pv 3) (pv 2) (nomark _)) (eR_ (s_ mQ_ (kX_ cl m_near hr.mo (pv 1) (a_ (pv 4) c_)) (l_ d_count_near hr.mo (by rfl) (a_ (pv 3) (a_ (pv 4) c_))) (nomark _)) (cR_ (s_ mQ_ (kX_ cl m_near hr.mo (pv 1) (a_ e_ c_)) (l_ d_count_even hr.mo (by rfl) (a_ (pv 3) c_)) (nomark _)))))) (h_ (m_ cH_)) q_)
   (b_ (j_ (i:=5) nd rfl (Or.inl rfl) (n_ C_ (n_ ad_ (l_ d_law_take hr.mo (by rfl) (a_ (pv 0) (a_ (n_ el_ e_ e_) c_))) (n_ el_ e_ e_)) (l_ d_law_take hr.mo (by rfl) (a_ (pv 0) (a_ (n_ el_ e_ e_) c_)))))
   (b_ (j_ (i:=6) nd rfl (Or.inl rfl) (n_ bI_ (pv 5) (l_ d_count_even hr.mo (by rfl) (a_ (pv 3) c_))))
   (b_ (j_ (i:=7) nd rfl (Or.inl rfl) (kX_ cl m_even hr (pv 1) (a_ (pv 6) c_)))
   (b_ (F_ (PW.pt (eR_ (s_ mQ_ (pv 7) (l_ d_even_by hr.mo (by rfl) (a_ (pv 3) (a_ (pv 6) c_))) (nomark _)) (cR_ (s_ lc_ (l_ d_is_even hr.mo (by rfl) (a_ (pv 3) (a_ (pv 7) c_))) cH_ (nomark _))))) (h_ (m_ cH_)) q_)
   (h_ (m_ (cl_ (bU_ cn_ (kX_ cl m_even hr (pv 1) (a_ e_ c_)) e_ (nomark _)) (cT_ (bU_ iB_ (kX_ cl m_even hr (pv 1) (a_ (l_ d_count_even hr.mo (by rfl) (a_ (pv 3) c_)) c_)) bs_ (nomark _))))))))))))),?_⟩
  have ok:=G.ok
  have hne:=S.ne
  have hpos:=Mx.nrN_pos (d:=0) ok (nW_ ok)
  refine⟨_,rfl,kp,dx,_,rfl,S.ob,aL_ (by decide +kernel),kp,dx,sl,as,b,ps,ini,ws,rfl,S,fun ft at' ct H1 s1 G1 nf na nc=>?_⟩
  have E1:=E0.keep s1
  have nat':at'≠st:=E0.off na
  have nct:ct≠st:=E0.off nc
  refine⟨_,rfl,_,rfl,st,f,a,c,b,ps,ws,rfl,E1,G.keep s1,na0,nc0,fun d0 H2 E2 k2=>?_⟩
  have S2:=(S.keep s1).kst hne E1 k2 ko
  have G2:=(G.keep s1).kps E1 na0 nc0 k2
  have T2:=G1.kps E1 nat' nct k2
  have K2:Kp [st] H H2:=(Kp.of s1).trans k2
  refine⟨_,rfl,_,rfl,L2.bZ_ T2.dat G2.dat (lJ_ _ _ _) (gn_ _ _ _) ⟨_,rfl,iteF ?_⟩⟩
  refine⟨_,rfl,kp,dx,_,rfl,S2.ob,aL_ (by decide +kernel),_,rfl,kp,dx,sl,as,b,ps,ini,ws,d0,rfl,S2,fun H3 s3=>?_⟩
  refine⟨_,rfl,_,rfl,ft,at',ct,b,ps,ws,d0,rfl,T2.keep s3,fun H4 s4=>⟨rfl,_,rfl,?_⟩⟩
  rw[bV_ rfl]
  have t4:=s3.trans s4
  refine iteF ⟨_,rfl,kp,dx,_,rfl,(S2.keep t4).ob,aL_ (by decide +kernel),kp,dx,sl,as,b,ps,ini,ws,0,rfl,S2.keep t4,fun H5 s5=>?_⟩
  refine⟨_,rfl,ft,at',ct,b,ps,ws,rfl,T2.keep (t4.trans s5),fun H6 s6=>⟨rfl,_,rfl,?_⟩⟩
  rw[bV_ rfl]
  have t6:=(t4.trans s5).trans s6
  refine iteF ?_
  have E6:=E2.keep t6
  refine⟨_,rfl,_,_,rfl,rfl,⟨by decide,by decide,by decide⟩,st,_,rfl,E6,by decide,by decide,fun r1 H7 r10 r11 E7 k7=>?_⟩
  refine⟨_,_,rfl,rfl,⟨by decide,by decide,by decide⟩,_,_,rfl,rfl,.inr ⟨by decide,by decide⟩,_,rfl,_,_,rfl,rfl,⟨by decide,by decide,by decide⟩,st,_,rfl,E7,by decide,by decide,fun r2 H8 r20 r21 E8 k8=>⟨_,_,rfl,rfl,?_⟩⟩
  have K8:Kp [st] H2 H8:=((Kp.of t6).trans k7).trans k8
  have S8:=S2.kst hne E2 K8 ko
  have T8:=T2.kps E2 nat' nct K8
  obtain⟨far,hfar⟩:∃far:Nat,r1*(10:Int) ^ (9:Int).toNat+r2=(far:Int):=⟨(r1*(10:Int) ^ (9:Int).toNat+r2).toNat,by
   have:(10:Int) ^ (9:Int).toNat=1000000000:=by decide
   rw[this]
   lia⟩
  dsimp only
  rw[hfar]
  obtain⟨N,hN⟩:∃N:Nat,Mx.nrN b 0 ps ws (b ^ ps.sum)=(N:Int):=⟨_,(Int.toNat_of_nonneg (Int.le_of_lt hpos)).symm⟩
  have hN0:0<N:=by lia
  refine⟨_,rfl,_,rfl,ft,at',ct,b,ps,ws,rfl,T8,fun H9 s9=>⟨_,_,rfl,rfl,hpos,?_⟩⟩
  dsimp only
  rw[hN,show(far:Int) % (N:Int)=((far % N:Nat):Int) by lia]
  have hk:far % N<N:=Nat.mod_lt _ hN0
  have S9:=S8.keep s9
  have T9:=T8.keep s9
  refine⟨_,rfl,kp,dx,_,rfl,S9.ob,aL_ (by decide +kernel),_,rfl,kp,dx,sl,as,b,ps,ini,ws,far % N,rfl,S9,fun v H10 s10 hv=>?_⟩
  obtain⟨m,rfl,hm,hi,_⟩:=hv.far (by rw[hN];lia)
  refine⟨_,rfl,_,rfl,_,rfl,ft,at',ct,b,ps,ws,far % N,rfl,T9.keep s10,fun u H11 s11 hu=>?_⟩
  cases hu.same hv
  refine⟨rfl,_,rfl,?_⟩
  rw[bV_ rfl]
  have t11:=s10.trans s11
  refine iteF ⟨_,rfl,_,rfl,ft,at',ct,b,ps,ws,m,rfl,T9.keep t11,hm,fun H12 s12=>?_⟩
  have he:decide (spread (ay_ b m ps ws)=0)=true:=decide_eq_true (by
   have:=Mx.nrI_le.mp hi
   have h0:=(kt_ (n:=m) ok).1
   lia)
  rw[he]
  refine⟨_,_,rfl,rfl,_,rfl,iteF ?_⟩
  have t12:=t11.trans s12
  have S12:=S9.keep t12
  refine⟨_,rfl,kp,dx,_,rfl,S12.ob,aL_ (by decide +kernel),kp,dx,sl,as,b,ps,ini,ws,0,rfl,S12,fun v1 H13 s13 hv1=>?_⟩
  cases hv1.self (n:=0) (nW_ ok) (Mx.nr_zero ok) rfl
  refine⟨rfl,_,rfl,iteT ?_⟩
  have t13:=t12.trans s13
  refine⟨_,rfl,kp,dx,_,rfl,(S9.keep t13).ob,aL_ (by decide +kernel),_,rfl,ft,at',ct,b,ps,ws,rfl,T9.keep t13,fun H14 s14=>?_⟩
  have t14:=t13.trans s14
  rw[hN]
  refine⟨kp,dx,sl,as,b,ps,ini,ws,N,rfl,S9.keep t14,fun v2 H15 s15 hv2=>?_⟩
  cases hv2.none (by rw[hN];lia)
  refine⟨rfl,?_⟩
  have t15:=t14.trans s15
  exact k H15 ((E8.keep s9).keep t15) ((((K2.trans K8).same s9).same t15))
end
theorem lt_{H1 H2:Hp}{kp dx:Addr}{o1 o2:HO}(nk:H1 kp=none)(nd:H1 dx=none)(k2:Kp [kp] (upd (upd H1 dx o1) kp o2) H2):Same H1 H2:=fun y o e=>by
 have n1:y≠kp:=fun z=>by rw[z,nk] at e;cases e
 have n2:y≠dx:=fun z=>by rw[z,nd] at e;cases e
 exact k2 y o (by rw[i_ n1,i_ n2];exact e) (by simpa using n1)
theorem dH_{H1:Hp}{kp dx y:Addr}{o1 o2:HO}(nk:H1 kp=none)(nd:H1 dx=none)(h:(upd (upd H1 dx o1) kp o2) y=none):H1 y=none:=by
 by_cases n1:y=kp
 ·rw[n1];exact nk
 ·by_cases n2:y=dx
  ·rw[n2];exact nd
  ·rw[i_ n1,i_ n2] at h;exact h
theorem hB_{C f' a' c' kp dx:Addr}{b:Nat}{ps:List Nat}{ws:List Int}{H1:Hp}{R:Hp->Prop}{E:XK}(G1:FrAt H1 f' a' c' b ps ws)(nk:H1 kp=none)(nd:H1 dx=none)
  (k:∀(sl:Addr) (x:AF) (H2:Hp),Same H1 H2->KpAt C H2 kp dx sl [x] b ps [ws]->H1 sl=none->H1 x.2.1=none->H1 x.2.2=none->R H2) :
  ii_ C [.ref kp,.ref f'] (upd (upd H1 dx (.own kp)) kp (.ins C dx [])) (fun v H2=>v=.non/\R H2) E:=by
 have s1:Same H1 (upd (upd H1 dx (.own kp)) kp (.ins C dx [])):=fun y o e=>by
  rw[i_ (fun z=>by rw[z,nk] at e;cases e),i_ (fun z=>by rw[z,nd] at e;cases e)];exact e
 refine⟨kp,dx,f',a',c',b,ps,ws,rfl,d_,G1.keep s1,fun sl x H2 n1 n2 n3 n4 K2 k2=>⟨rfl,k sl x H2 (lt_ nk nd k2) K2 (dH_ nk nd n1) (dH_ nk nd n3) (dH_ nk nd n4)⟩⟩
def Chain(wss:List (List Int))(hist:List (Nat×Int)):Prop:=wss.length=hist.length+1/\∀(i:Nat) (u v:List Int) (h:Nat×Int),wss[i]?=some u->wss[i+1]?=some v->hist[i]?=some h->u=v.set h.1 h.2
theorem Chain.undo{i0:List (List Int)}{wz ws:List Int}{h0:List (Nat×Int)}{p:Nat}{x:Int}(c:Chain (i0++[wz]++[ws]) (h0++[(p,x)])):wz=ws.set p x/\Chain (i0++[wz]) h0:=by
 have hl:=c.1
 simp at hl
 refine⟨c.2 i0.length wz ws (p,x) (by simp) ?_ (by rw[show i0.length=h0.length by lia];simp),by simp;lia,fun i u v h e1 e2 e3=>c.2 i u v h ?_ ?_ ?_⟩
 ·rw[show i0.length+1=(i0++[wz]).length by simp,List.getElem?_append_right (Nat.le_refl _)];simp
 ·rw[List.getElem?_append_left (List.getElem?_eq_some_iff.mp e1).1];exact e1
 ·rw[List.getElem?_append_left (List.getElem?_eq_some_iff.mp e2).1];exact e2
 ·rw[List.getElem?_append_left (List.getElem?_eq_some_iff.mp e3).1];exact e3
theorem mB_{ws:List Int}{p:Nat}{x y:Int}(h:ws[p]?=some y):ws=(ws.set p x).set p y:=by
 rw[List.set_set]
 refine List.ext_getElem? fun i=>?_
 rw[List.getElem?_set]
 split
 ·rename_i e
  subst e
  rw[if_pos (List.getElem?_eq_some_iff.mp h).1]
  exact h
 ·rfl
theorem Chain.weigh{ini:List (List Int)}{ws:List Int}{hist:List (Nat×Int)}{p:Nat}{x y:Int}(c:Chain (ini++[ws]) hist)(h:ws[p]?=some y):Chain (ini++[ws]++[ws.set p x]) (hist++[(p,y)]):=by
 have hl:=c.1
 simp at hl
 refine⟨by simp;lia,fun i u v g e1 e2 e3=>?_⟩
 rcases ij_ e3 with⟨hi,e3⟩ | ⟨rfl,rfl⟩
 ·rw[List.getElem?_append_left (by simp;lia)] at e1
  rw[List.getElem?_append_left (by simp;lia)] at e2
  exact c.2 i u v g e1 e2 e3
 ·rw[<-hl,List.append_assoc,List.getElem?_append_right (Nat.le_refl _)] at e1
  rw[show hist.length+1=(ini++[ws]).length by simp;lia,List.getElem?_append_right (Nat.le_refl _)] at e2
  simp at e1 e2
  subst e1;subst e2
  exact mB_ h
theorem DueW.uniq{ws:List Int}{hist:List (Nat×Int)}{d:Option (V×V)}{w1 w2:Str}(h1:DueW ws hist d w1)(h2:DueW ws hist d w2):w1=w2:=by
 rcases h1 with⟨e,_,rfl⟩ | ⟨pl,wt,e,h1⟩
 ·rcases h2 with⟨_,_,rfl⟩ | ⟨pl',wt',e',_⟩
  ·rfl
  ·rw[e] at e';cases e'
 ·rcases h2 with⟨e',_⟩ | ⟨pl',wt',e',h2⟩
  ·rw[e] at e';cases e'
  ·rw[e] at e'
   cases e'
   rcases h1 with⟨a1,rfl⟩ | ⟨a1,a2,rfl⟩ <;> rcases h2 with⟨b1,rfl⟩ | ⟨b1,b2,rfl⟩
   ·rfl
   ·rw[a1] at b1;cases b1
   ·rw[a1] at b1;cases b1
   ·rfl
theorem DueW.word{ws:List Int}{hist:List (Nat×Int)}{d:Option (V×V)}{wd:Str}(h:DueW ws hist d wd):wd="number"\/wd="part":=by
 rcases h with⟨_,_,rfl⟩ | ⟨_,_,_,⟨_,rfl⟩ | ⟨_,_,rfl⟩⟩
 ·exact .inl rfl
 ·exact .inr rfl
 ·exact .inl rfl
theorem DueW.any{ws:List Int}{hist hist':List (Nat×Int)}{q:V×V}{wd:Str}(h:DueW ws hist (some q) wd):DueW ws hist' (some q) wd:=by
 rcases h with⟨e,_⟩ | h
 ·cases e
 ·exact .inr h
theorem DueW.noW{ws:List Int}{hist:List (Nat×Int)}{p:Nat}{x:Int}{wd:Str}(h:DueW ws hist (some (.int p,.int x)) wd)(hp:p<ws.length)(h1 : -9<=x)(h2:x<=9):False:=by
 rcases h with⟨e,_⟩ | ⟨pl,wt,e,h⟩
 ·cases e
 ·cases e
  rcases h with⟨a,_⟩ | ⟨_,a,_⟩
  ·simp[betw] at a;lia
  ·simp[betw] at a;lia
theorem DueS.noW{ws ws':List Int}{hist hist':List (Nat×Int)}{d:Option (V×V)}{wd:Str}(h:DueS ws hist d ws' hist')(hw:DueW ws hist d wd):False:=by
 rcases h with⟨h0,p,x,rfl,e,_⟩ | ⟨p,x,y,rfl,hp,h1,h2,_⟩
 ·rcases hw with⟨_,e',_⟩ | ⟨pl,wt,e',_⟩
  ·rw[e] at e';simp at e'
  ·cases e'
 ·exact hw.noW hp h1 h2
theorem pH_(a b:Str):PyData.eqv (.str a) (.str b)=decide (a=b):=by
 simp[PyData.eqv]
 try rfl
theorem ne_{wd:Str}(h:wd="number"\/wd="part"):¬ wd="other":=by
 rcases h with rfl | rfl <;> decide +kernel
theorem iL_{wd:Str}(h:wd="number"\/wd="part"):¬ wd="":=by
 rcases h with rfl | rfl <;> decide +kernel
theorem iS_{wd:Str}(h:wd="number"\/wd="part"):PyData.canLay0 (.str wd)=true:=by
 rcases h with rfl | rfl <;> decide +kernel
theorem dK_:PyData.canLay0 (.str "other")=true:=by decide +kernel
section
variable{C:Addr}{H H':Hp}{kp dx sl st:Addr}{as:List AF}{b b':Nat}{ps ps':List Nat}{wss:List (List Int)}{s f a c e:Addr}{ks:List Addr}{ws:List Int}{hist:List (Nat×Int)}
theorem KpAt.stay(K:KpAt C H kp dx sl as b ps wss)(s:Stay H H')(h:H' sl=H sl):KpAt C H' kp dx sl as b ps wss :=
 ⟨s _ _ K.ob qL_,by rw[h];exact K.ls,K.len,fun i x ws h1 h2=>(K.each i x ws h1 h2).stay s⟩
theorem StA.ne_sl(A:StA H s f a c e ks b ps ws hist)(K:KpAt C H kp dx sl as b' ps' wss)(hne:as≠[]):e≠sl:=fun z=>by
 have h:=A.he
 rw[z,K.ls] at h
 obtain⟨x,r,rfl⟩:=List.exists_cons_of_ne_nil hne
 cases ks with
 | nil=>cases h
 | cons k0 kr =>
  have e1:V.ref x.1=V.ref k0:=by
   injection h with h;injection h with h;injection h
  injection e1 with e1
  have hk:=A.hk 0 k0 (hist[0]'(by have:=A.hl;simp at this;lia)) rfl (List.getElem?_eq_getElem _)
  have hx:=(K.each 0 x (wss[0]'(by have:=K.len;simp at this;lia)) rfl (List.getElem?_eq_getElem _)).tp
  rw[e1,hk] at hx
  cases hx
theorem StA.ksl(A:StA H s f a c e ks b ps ws hist)(K:KpAt C H kp dx sl as b' ps' wss)(hne:as≠[])(k:Kp [sl] H H'):StA H' s f a c e ks b ps ws hist:=by
 have t:=k.stay K.ls (bA_ _ _)
 exact⟨t _ _ A.hs en_,A.fr.stay t,k _ _ A.he (by simpa using A.ne_sl K hne),A.hl,fun i k' h h1 h2=>t _ _ (A.hk i k' h h1 h2) en_⟩
theorem StA.kst(A:StA H s f a c e ks b ps ws hist)(S:Store H st)(k:Kp [st] H H')(na:a≠st)(nc:c≠st):StA H' s f a c e ks b ps ws hist:=by
 have n2:e≠st:=S.ne A.he (fun g c' j z=>by
  injection z with z
  obtain⟨a',e'⟩:=bA_ (fun x:Addr=>x) ks (.int g) (by rw[z];simp)
  cases e')
 exact⟨k _ _ A.hs (by simpa using S.ne A.hs (by intro _ _ _ z;cases z)),A.fr.kps S na nc k,k _ _ A.he (by simpa using n2),A.hl,fun i k' h h1 h2=>k _ _ (A.hk i k' h h1 h2) (by simpa using S.ne (A.hk i k' h h1 h2) (by intro _ _ _ z;cases z))⟩
end
structure W6(C:Addr)(H:Hp)(st kp dx sl:Addr)(as:List AF)(b:Nat)(ps:List Nat)(ini:List (List Int))(ws:List Int)(s f a c e:Addr)(ks:List Addr)(hist:List (Nat×Int)):Prop where
 S:Store H st
 K:KpAt C H kp dx sl as b ps (ini++[ws])
 ko:∀x∈as,x.2.1≠st/\x.2.2≠st
 A:StA H s f a c e ks b ps ws hist
 na:a≠st
 nc:c≠st
 hr:HistR ws.length hist
 ch:Chain (ini++[ws]) hist
section
variable{C:Addr}{H H':Hp}{st kp dx sl:Addr}{as:List AF}{b:Nat}{ps:List Nat}{ini:List (List Int)}{ws:List Int}{s f a c e:Addr}{ks:List Addr}{hist:List (Nat×Int)}
theorem W6.keep(W:W6 C H st kp dx sl as b ps ini ws s f a c e ks hist)(t:Same H H'):W6 C H' st kp dx sl as b ps ini ws s f a c e ks hist:=⟨W.S.keep t,W.K.keep t,W.ko,W.A.keep t,W.na,W.nc,W.hr,W.ch⟩
theorem W6.kst(W:W6 C H st kp dx sl as b ps ini ws s f a c e ks hist)(k:Kp [st] H H')(S':Store H' st):W6 C H' st kp dx sl as b ps ini ws s f a c e ks hist:=⟨S',W.K.kst W.K.ne W.S k W.ko,W.ko,W.A.kst W.S k W.na W.nc,W.na,W.nc,W.hr,W.ch⟩
end
theorem via{I NX:St->Hp->Prop}{G:Prop}(main:(∀ σ H,I σ H->NX σ H)->G)(key:∀ σ H,I σ H->NX σ H):G:=main key
theorem pr_{t:Addr}:(!decide (V.ref t=V.non))=true:=by simp
theorem ps_:(!decide (V.non=V.non))=false:=by simp
section
variable{P:Program}{w:World}{K:PySem.W.Frag}{mg:Str->Option Value}{base:Heap}{C:Addr}{c:Nat->Addr}
theorem scLaw:FnScope ["script","at","store","frame","keeper","state","left","turn","deed","due","word","anew","found"] ["script"] (g_ sLaw):=⟨rfl,rfl,rfl,by decide +kernel,rfl,by decide +kernel,by decide +kernel⟩
theorem qD_{f:Addr}{fd:FuncData}(F:Fun K "law" "law" sLaw f fd)(T:Txt mg)(nstr:mg "str"=none)(d_law_cell:Def P w K mg base 1 "_law_cell" ["script","k"] (ky_ K))(d_law_store:Def P w K mg base 1 "_law_store" ["cell"] gO_)(d_law_take:Def P w K mg base 1 "_law_take" ["store","many"] bg_)(d_law_frame:Def P w K mg base 2 "_law_frame" ["store","longest"] gR_)(d_law_copy:Def P w K mg base 1 "_law_copy" ["frame"] bk_)(d_law_deed:Def P w K mg base 2 "_law_deed" ["store","state"] kx_)(d_law_due:Def P w K mg base 2 "_law_due" ["state","deed"] spDue)(d_law_asked:Def P w K mg base 9 "_law_asked" ["keeper","deed","due"] (gT_ C))(d_count_even:Def P w K mg base 7 "count_even" ["frame"] af_)(d_law_as_anew:Def P w K mg base 15 "_law_as_anew" ["store","keeper","frame"] (kz_ C))(cl:Cls K C)(m_frame:MDef P w K mg base 2 C "frame" ["self"] (db_ C))(k_Keeper:CDef P w K mg base 6 "Keeper" C ["self","frame"] (ii_ C)):FnOk P w K mg base CX0 16 f fd ["script"] (spLaw K):=by
 refine F.ok scLaw (fun vs H Q E h=>?_) (fun cdv A outer s H vs Q E hr h=>?_)
 ·obtain⟨a0,ns,rfl,_⟩:=h;rfl
 ·obtain⟨a0,ns,rfl,hS,hlen,k⟩:=h
  have nd:=scLaw.nd
  refine⟨_,(b_ (V_ PassesOwn.never rfl (H_ (by rfl) T.range (a_ (o_ (gw_ rfl) (by rfl) T.min boot_min (a_ (o_ (gx_ rfl) (by rfl) T.max boot_max (a_ (lenS T.len (by rfl) (pv 0)) (a_ e_ c_))) (a_ e_ c_))) c_)) (p_ (i:=1) nd rfl (Or.inl rfl))
    (b_ (j_ (i:=2) nd rfl (Or.inl rfl) (l_ d_law_store hr.mo (by rfl) (a_ (l_ d_law_cell hr.mo (by rfl) (a_ (pv 0) (a_ (pv 1) c_))) c_)))
    (b_ (j_ (i:=3) nd rfl (Or.inl rfl) (l_ d_law_frame hr.mo (by rfl) (a_ (pv 2) (a_ e_ c_))))
    (b_ (j_ (i:=4) nd rfl (Or.inl rfl) (qv_ k_Keeper hr.mo (by rfl) (a_ (l_ d_law_copy hr.mo (by rfl) (a_ (pv 3) c_)) c_)))
    (b_ (j_ (i:=5) nd rfl (Or.inl rfl) (ac_ (a_ (pv 3) (a_ (A_ c_) c_))))
    (b_ (j_ (i:=6) nd rfl (Or.inl rfl) (ixl (A_ (a_ e_ (a_ e_ c_))) (R_ cu_ (by rfl) T.int boot_int (a_ (bU_ jr_ (n_ ad_ (ixt (pv 3) e_) (lenS T.len (by rfl) (ixt (pv 3) e_))) e_ (nomark _)) c_))))
    (b_ (V_ PassesOwn.never rfl (H_ (by rfl) T.range (a_ (l_ d_law_take hr.mo (by rfl) (a_ (pv 2) (a_ e_ c_))) c_)) (p_ (i:=7) nd rfl (Or.inl rfl))
     (b_ (j_ (i:=8) nd rfl (Or.inl rfl) (l_ d_law_deed hr.mo (by rfl) (a_ (pv 2) (a_ (pv 5) c_))))
     (b_ (j_ (i:=9) nd rfl (Or.inl rfl) (l_ d_law_due hr.mo (by rfl) (a_ (pv 5) (a_ (pv 8) c_))))
     (b_ (j_ (i:=10) nd rfl (Or.inl rfl) N_)
     (b_ (F_ (ag_ (o_ ap_ (by rfl) T.isi boot_isinstance (a_ (pv 9) (a_ (dW_ nstr dS_) c_)))) (h_ (j_ (i:=10) nd rfl (Or.inl rfl) (pv 9))) q_)
     (b_ (j_ (i:=11) nd rfl (Or.inl rfl) (qv_ k_Keeper hr.mo (by rfl) (a_ (fR_ cl m_frame hr.mo (pv 4)) c_)))
     (b_ (j_ (i:=12) nd rfl (Or.inl rfl) (l_ d_law_asked hr.mo (by rfl) (a_ (pv 4) (a_ (pv 8) (a_ (pv 10) c_)))))
     (b_ (F_ (PW.pt (eR_ (s_ (ld_ P w rfl rfl hr.units) (pv 12) N_ (nomark _)) (cR_ (PW.pt (iu_ (s_ la_ (pv 8) bs_ (nomark _)) (eS_ (s_ (eY_ P w rfl rfl hr.units) (pv 12) (l_ d_law_asked hr.mo (by rfl) (a_ (pv 11) (a_ (pv 8) (a_ (pv 10) c_)))) (nomark _)))))))) (h_ (m_ cH_)) q_)
     (b_ (ix_ (F_ (s_ cn_ (pv 10) N_ (nomark _)) (b_ (F_ (s_ (eY_ P w rfl rfl hr.units) (pv 12) (ac_ (a_ (l_ d_count_even hr.mo (by rfl) (a_ (ixt (pv 5) e_) c_)) (a_ (l_ d_count_even hr.mo (by rfl) (a_ (ixt (pv 9) e_) c_)) c_))) (nomark _)) (h_ (m_ cH_)) q_)
      (h_ (j_ (i:=5) nd rfl (Or.inl rfl) (pv 9)))) q_))
     (h_ (ix_ (F_ (PW.pt (iu_ (s_ cn_ (l_ d_law_take hr.mo (by rfl) (a_ (pv 2) (a_ e_ c_))) e_ (nomark _)) (eS_ (s_ jr_ (pv 6) e_ (nomark _))))) (b_ (j_ (i:=6) nd rfl (Or.inl rfl) (n_ W_ (pv 6) e_))
      (b_ (F_ (al_ (ag_ (l_ d_law_as_anew hr (by rfl) (a_ (pv 2) (a_ (pv 4) (a_ (ixt (pv 5) e_) c_)))))) (h_ (m_ cH_)) q_)
      (h_ (F_ (PW.pt (iu_ (s_ la_ (pv 8) bs_ (nomark _)) (eS_ (s_ (eY_ P w rfl rfl hr.units) (fR_ cl m_frame hr.mo (pv 11)) (ixt (pv 5) e_) (nomark _))))) (h_ (m_ cH_)) q_)))) q_))))))))))))
    (h_ (F_ (al_ (ag_ (l_ d_law_as_anew hr (by rfl) (a_ (pv 2) (a_ (pv 4) (a_ (ixt (pv 5) e_) c_)))))) (h_ (m_ cH_)) q_)))))))))
   (h_ (m_ cH_))),?_⟩
  refine⟨_,rfl,a0,_,rfl,.inl hS,_,_,rfl,_,_,rfl,?_⟩
  generalize hM:(if (5:Int)<(if (3:Int)>(((ns.map V.int).length:Nat):Int) then 3 else (((ns.map V.int).length:Nat):Int)) then (5:Int) else (if (3:Int)>(((ns.map V.int).length:Nat):Int) then 3 else (((ns.map V.int).length:Nat):Int)))=M
  have m1:3<=M/\M<=5:=by
   rw[<-hM]
   split <;> (split <;> lia)
  refine⟨_,rfl,by lia,by lia,Z_ (n:=M.toNat) (fun i σ H2=>∃v1 v2 v3 v4 v5 v6 v7 v8 v9 v10 v11 v12,σ=[some (.ref a0),v1,v2,v3,v4,v5,v6,v7,v8,v9,v10,v11,v12]/\Same H H2) ⟨none,none,none,none,none,none,none,none,none,none,none,none,rfl,Same.refl _⟩ ?_ ?_⟩
  ·rintro i σ H2 hi ⟨v1,v2,v3,v4,v5,v6,v7,v8,v9,v10,v11,v12,rfl,s2⟩
   have ez:(0:Int)+(i:Int)=(i:Int):=Int.zero_add _
   rw[ez]
   refine⟨_,rfl,_,rfl,a0,ns,i,rfl,s2.seq hS,by lia,fun cl'=>⟨cl',rfl,fun st H3 nq s3 E3=>?_⟩⟩
   have hq:H st=none:=s2.free nq
   have S3:=s2.trans s3
   refine⟨_,rfl,st,3,rfl,E3,by decide,by decide,fun f0 a c0 b ps ws0 H6 E6 k6 G6 nf na nc=>?_⟩
   have na':a≠st:=E3.off na
   have nc':c0≠st:=E3.off nc
   have S6:=aV_ S3 hq k6
   have ok:=G6.ok
   have hwl:=ok.wl
   have hsm:=ok.sum
   have hb2:=ok.b2
   have hb16:=ok.b16
   refine⟨_,rfl,f0,a,c0,b,ps,ws0,rfl,G6,fun f' a' c' H8 s8 G8 nf' na2 nc2 _=>fun kp dx nk nd hne=>hB_ G8 nk nd fun sl x H9 s9 K9 nsl nx1 nx2=>?_⟩
   have T9:=s8.trans s9
   refine⟨_,rfl,sz (by simp),fun e0 he0=>⟨sz (by simp),fun st0 hst0=>?_⟩⟩
   have t10:=f_ (o:=.lst []) he0
   have u10:(upd H9 e0 (.lst [])) e0=some (.lst (([]:List Addr).map V.ref)):=d_
   generalize upd H9 e0 (.lst [])=H10 at t10 u10 hst0⊢
   have t11:=f_ (o:=.tup [.ref f0,.ref e0]) hst0
   have u11:(upd H10 st0 (.tup [.ref f0,.ref e0])) st0=_:=d_
   generalize upd H10 st0 (.tup [.ref f0,.ref e0])=H11 at t11 u11⊢
   have T11:=(T9.trans t10).trans t11
   have hsl:H sl=none:=S6.free (s8.free nsl)
   have W11:W6 C H11 st kp dx sl [x] b ps [] ws0 st0 f0 a c0 e0 [] []:=by
    refine⟨E6.keep T11,K9.keep (t10.trans t11),fun y hy=>?_,⟨u11,G6.keep T11,t11 _ _ u10,rfl,fun i k h h1 h2=>?_⟩,na',nc',fun h hh=>?_,rfl,fun i u v h h1 h2 h3=>?_⟩
    ·rw[List.mem_singleton.mp hy];exact⟨(E6.keep s8).off nx1,(E6.keep s8).off nx2⟩
    ·simp at h1
    ·simp at hh
    ·simp at h3
   have G11:=G6.keep T11
   refine⟨sz (by simp),fun lf hlf=>?_⟩
   have t12:=f_ (o:=.lst [V.int 15,V.int 1]) hlf
   have u12:(upd H11 lf (.lst [V.int 15,V.int 1])) lf=some (.lst (([15,1]:List Int).map V.int)):=d_
   generalize upd H11 lf (.lst [V.int 15,V.int 1])=H12 at t12 u12⊢
   have G12:=G11.keep t12
   refine⟨_,rfl,_,_,_,_,rfl,rfl,SqT.of G12.tp,rfl,_,rfl,_,_,_,_,rfl,rfl,SqT.of G12.tp,rfl,c0,_,rfl,.inl (SqL.of G12.hw),_,_,rfl,rfl,.inl ⟨by lia,by lia⟩,_,_,rfl,rfl,.inr ⟨_,rfl,?_⟩⟩
   obtain⟨L,eL,_⟩:=cK_ (ns:=[15,1]) (i:=if decide ((60:Int)<(b:Int)*(((ws0.map V.int).length:Nat):Int))=true then 1 else 0) (Pr:=fun _=>True) (by split <;> decide) (by split <;> decide) (fun _ _=>trivial)
   refine aI_ u12 eL ?_
   have W12:=W11.keep t12
   have S12:=(S6.trans T11).trans t12
   refine⟨_,rfl,st,15,rfl,W12.S,by decide,by decide,fun r H13 r0 r1 E13 k13=>?_⟩
   have W13:=W12.kst k13 E13
   have S13:=aV_ S12 hq k13
   refine⟨_,rfl,by lia,by lia,Z_ (n:=r.toNat) (fun j σ H'=>∃L v7 v8 v9 v10 v11 v12 as ini ws s f c e ks hist,σ=[some (.ref a0),some (.int (i:Int)),some (.ref st),some (.ref f0),some (.ref kp),some (.ref s),some (.int L),v7,v8,v9,v10,v11,v12]/\W6 C H' st kp dx sl as b ps ini ws s f a c e ks hist/\hist.length<=j/\Same H H')
    ⟨L,v7,v8,v9,v10,v11,v12,[x],[],ws0,st0,f0,c0,e0,[],[],rfl,W13,Nat.le_refl _,S13⟩ ?_ ?_⟩
   ·rintro j σ H14 hj ⟨L,v7,v8,v9,v10,v11,v12,as,ini,ws,s',f,c',e,ks,hist,rfl,W14,hl14,S14⟩
    have hj':j<15:=by lia
    have hli:hist.length=ini.length:=by have:=W14.ch.1;simp at this;lia
    refine⟨_,rfl,_,rfl,st,s',f,a,c',e,ks,b,ps,ws,hist,rfl,W14.S,W14.A,W14.na,W14.nc,fun dv d H15 E15 k15 D15=>?_⟩
    have W15:=W14.kst k15 E15
    have S15:=aV_ S14 hq k15
    apply via (I:=fun σ H'=>∃v9 v10 kq dq slq aq iq wq v12 as ini ws s f c e ks hist,σ=[some (.ref a0),some (.int (i:Int)),some (.ref st),some (.ref f0),some (.ref kp),some (.ref s),some (.int L),some (.int (0+(j:Int))),some dv,v9,v10,some (.ref kq),v12]/\W6 C H' st kp dx sl as b ps ini ws s f a c e ks hist/\hist.length<=j+1/\Same H H'/\Deed H' dv d/\KpAt C H' kq dq slq aq b ps (iq++[wq])/\(∀x∈aq,x.2.1≠st/\x.2.2≠st)/\(d≠none->wq=ws))
    case main =>
     intro key
     refine⟨_,rfl,_,rfl,s',f,a,c',e,ks,b,ps,ws,hist,dv,d,rfl,W15.A,W15.hr,by lia,D15,fun wd H16 s16 hW=>?caseW,fun s1 f1 c1 e1 ks1 ws1 hist1 H16 s16 hD A16 nc1 hr1=>?caseS⟩
     case caseW =>
      have W16:=W15.keep s16
      have D16:=D15.keep s16
      have S16:=S15.trans s16
      have hwd:=hW.word
      refine⟨_,rfl,_,_,_,_,rfl,.str wd,of_,true,rfl,iteT ⟨_,rfl,?_⟩⟩
      refine⟨_,rfl,kp,dx,_,rfl,W16.K.ob,aL_ (by decide +kernel),kp,dx,sl,as,b,ps,ini,ws,rfl,W16.K,fun ff af cf H17 s17 G17 nff naf ncf=>fun kq dq nkq ndq hneq=>hB_ G17 nkq ndq fun slq xq H18 s18 K18 nslq nxq1 nxq2=>?_⟩
      have t18:=s17.trans s18
      have W18:=W16.keep t18
      have D18:=D16.keep t18
      have S18:=S16.trans t18
      have kq18:∀y∈[xq],y.2.1≠st/\y.2.2≠st:=fun y hy=>by rw[List.mem_singleton.mp hy];exact⟨(W16.S.keep s17).off nxq1,(W16.S.keep s17).off nxq2⟩
      refine⟨_,rfl,_,rfl,_,rfl,kp,dx,sl,as,b,ps,ini,ws,hist,dv,.str wd,d,rfl,W18.K,hli,by lia,D18,?_,?_,?_⟩
      ·intro i0 wz ai t H19 hd hini _ _ _ _ _
       exfalso
       subst hd
       rcases hW with⟨_,eh,_⟩ | ⟨_,_,z,_⟩
       ·rw[eh,hini] at hli;simp at hli
       ·cases z
      ·intro p xx t xn H19 hd hp h1 h2 _ _ _ _ _ _
       subst hd
       exact(hW.noW hp h1 h2).elim
      ·intro wd' hW'
       refine⟨wd,rfl,iS_ hwd,fun H19 s19=>?_⟩
       rw[if_pos (hW'.uniq hW)]
       have W19:=W18.keep s19
       have D19:=D18.keep s19
       have S19:=S18.trans s19
       have K19:=K18.keep s19
       refine⟨_,rfl,.str wd,.str "other",datS _,datS _,⟨iS_ hwd,dK_,by show(0:Nat)<=60;decide⟩,?_⟩
       rw[if_neg (by decide),pH_,decide_eq_false (ne_ hwd)]
       refine⟨_,rfl,iteF ⟨_,rfl,rfl,_,rfl,?_⟩⟩
       have fin:∀H20,Same H19 H20->∃v9 v10 kq' dq slq aq iq wq v12 as ini ws s f c e ks hist,[some (.ref a0),some (.int (i:Int)),some (.ref st),some (.ref f0),some (.ref kp),some (.ref s'),some (.int L),some (.int (0+(j:Int))),some dv,some (.str wd),some (.str wd),some (.ref kq),some (.str wd)]=[some (.ref a0),some (.int (i:Int)),some (.ref st),some (.ref f0),some (.ref kp),some (.ref s),some (.int L),some (.int (0+(j:Int))),some dv,v9,v10,some (.ref kq'),v12]/\W6 C H20 st kp dx sl as b ps ini ws s f a c e ks hist/\hist.length<=j+1/\Same H H20/\Deed H20 dv d/\KpAt C H20 kq' dq slq aq b ps (iq++[wq])/\(∀x∈aq,x.2.1≠st/\x.2.2≠st)/\(d≠none->wq=ws) :=
        fun H20 s20=>⟨_,_,kq,dq,slq,[xq],[],ws,_,as,ini,ws,s',f,c',e,ks,hist,rfl,W19.keep s20,by lia,S19.trans s20,D19.keep s20,K19.keep s20,kq18,fun _=>rfl⟩
       have D19':=D19
       rcases D19 with⟨edv,ed⟩ | ⟨t,pl,wt,edv,ed,ht,d1,d2⟩
       ·rw[show(!decide (dv=V.non))=false by rw[edv];simp]
        refine iteF (iteF ⟨_,?_,key⟩)
        refine⟨_,rfl,rfl,_,rfl,?_⟩
        rw[decide_eq_false (by intro z;injection z with z;exact iL_ hwd z)]
        exact iteF (fin H19 (Same.refl _))
       ·rw[show(!decide (dv=V.non))=true by rw[edv];simp]
        refine iteT ⟨_,rfl,_,rfl,_,rfl,_,rfl,kq,dq,slq,[xq],b,ps,[],ws,[],dv,.str wd,d,rfl,K19,rfl,by simp,D19',?_,?_,?_⟩
        ·intro i0 wz ai t H20 hd
         rw[ed] at hd
         cases hd
        ·intro p xx t2 xn H20 hd hp h1 h2 _ _ _ _ _ _
         rw[hd] at hW
         exact(hW.noW hp h1 h2).elim
        ·intro wd2 hW2
         refine⟨wd,rfl,iS_ hwd,fun H20 s20=>?_⟩
         have eww:wd2=wd:=by
          rw[ed] at hW hW2
          exact hW2.uniq hW.any
         rw[if_pos eww]
         refine L2.bZ_ (datS _) (datS _) (iS_ hwd) (by show(0:Nat)<=60;decide) ⟨_,rfl,iteF ⟨_,?_,key⟩⟩
         refine⟨_,rfl,rfl,_,rfl,?_⟩
         rw[decide_eq_false (by intro z;injection z with z;exact iL_ hwd z)]
         exact iteF (fin H20 s20)
     case caseS =>
      have W16:=W15.keep s16
      have D16:=D15.keep s16
      have S16:=S15.trans s16
      have nc1':c1≠st:=W15.S.off nc1
      refine⟨_,rfl,_,_,_,_,rfl,.tup A16.hs,od_,false,rfl,iteF ?_⟩
      refine⟨_,rfl,kp,dx,_,rfl,W16.K.ob,aL_ (by decide +kernel),kp,dx,sl,as,b,ps,ini,ws,rfl,W16.K,fun ff af cf H17 s17 G17 nff naf ncf=>fun kq dq nkq ndq hneq=>hB_ G17 nkq ndq fun slq xq H18 s18 K18 nslq nxq1 nxq2=>?_⟩
      have t18:=s17.trans s18
      have W18:=W16.keep t18
      have D18:=D16.keep t18
      have S18:=S16.trans t18
      have A18:=A16.keep t18
      have kq18:∀y∈[xq],y.2.1≠st/\y.2.2≠st:=fun y hy=>by rw[List.mem_singleton.mp hy];exact⟨(W16.S.keep s17).off nxq1,(W16.S.keep s17).off nxq2⟩
      have nslq':slq≠sl:=fun z=>by rw[z,(W16.K.keep s17).ls] at nslq;cases nslq
      have hslq:H slq=none:=S16.free (s17.free nslq)
      have hneW:=W18.K.ne
      refine⟨_,rfl,_,rfl,_,rfl,kp,dx,sl,as,b,ps,ini,ws,hist,dv,.str "",d,rfl,W18.K,hli,by lia,D18,?_,?_,fun wd hW=>(hD.noW hW).elim⟩
      ·intro i0 wz ai t H19 hd hini hsub nt ht K19 k19
       obtain⟨h0,p,xx,_,eh,eh1,ew⟩:∃h0 p xx,d=none/\hist=h0++[(p,xx)]/\hist1=h0/\ws1=ws.set p xx:=by
        rcases hD with h | ⟨p,xx,y,z,_⟩
        ·exact h
        ·rw[hd] at z;cases z
       subst hini
       have hch:=W18.ch
       rw[eh] at hch
       obtain⟨ewz,hch1⟩:=hch.undo
       rw[<-ew] at ewz
       subst ewz
       have st19:=k19.stay W18.K.ls (bA_ _ _)
       have A19:=A18.ksl W18.K hneW k19
       have B19:=W18.A.ksl W18.K hneW k19
       have S19:=aV_ S18 hsl k19
       have D19:=D18.stay st19
       have Kq19:=K18.stay st19 (by rw[k19 _ _ K18.ls (by simpa using nslq'),K18.ls])
       have W19:W6 C H19 st kp dx sl ai b ps i0 wz s1 f1 a c1 e1 ks1 hist1:=⟨W18.S.stay st19,K19,fun y hy=>W18.ko y (hsub y hy),A19,W18.na,nc1',hr1,by rw[eh1];exact hch1⟩
       refine⟨_,rfl,.tuple [.int (evN b ps ws),.int (evN b ps wz)],.str "other",datT ht (.cons (datI _) (.cons (datI _) .nil)),datS _,⟨rfl,dK_,by simp[PyData.depth,PyData.depthAll]⟩,?_⟩
       rw[if_neg (by decide),show PyData.eqv (.tuple [.int (evN b ps ws),.int (evN b ps wz)]) (.str "other")=false from rfl]
       refine⟨_,rfl,iteF ⟨_,rfl,rfl,_,rfl,?_⟩⟩
       rcases D19 with⟨edv,ed⟩ | ⟨t',pl,wt,edv,z,_⟩
       ·rw[show(!decide (dv=V.non))=false by rw[edv];simp]
        refine iteF (iteF ⟨_,?_,key⟩)
        refine⟨_,rfl,rfl,_,rfl,?_⟩
        rw[decide_eq_true rfl]
        refine iteT ⟨_,rfl,_,rfl,_,_,_,_,rfl,rfl,SqT.of B19.hs,rfl,f,a,c',b,ps,ws,rfl,B19.fr,fun H20 s20=>?_⟩
        have A20:=A19.keep s20
        refine⟨_,rfl,_,_,_,_,rfl,rfl,SqT.of A20.hs,rfl,f1,a,c1,b,ps,wz,rfl,A20.fr,fun H21 s21=>⟨sz (by simp),fun tt htt=>?_⟩⟩
        have t21:=s20.trans s21
        have s22:=f_ (o:=.tup [.int (evN b ps ws),.int (evN b ps wz)]) htt
        refine L2.bZ_ (datT (s22 _ _ (t21 _ _ ht)) (.cons (datI _) (.cons (datI _) .nil))) (datT d_ (.cons (datI _) (.cons (datI _) .nil))) rfl (by simp[PyData.depth,PyData.depthAll]) ⟨_,rfl,iteF ⟨_,rfl,?_⟩⟩
        have T22:=t21.trans s22
        exact⟨_,_,kq,dq,slq,[xq],[],ws,_,ai,i0,wz,s1,f1,c1,e1,ks1,hist1,rfl,W19.keep T22,by rw[eh1];rw[eh] at hl14;simp at hl14;lia,S19.trans T22,.inl ⟨edv,ed⟩,Kq19.keep T22,kq18,fun z=>absurd hd z⟩
       ·rw[hd] at z;cases z
      ·intro p xx t xn H19 hd hp h1 h2 nt ht nxa nxc K19 k19
       obtain⟨y,hy,ew,eh1⟩:∃y,ws[p]?=some y/\ws1=ws.set p xx/\hist1=hist++[(p,y)]:=by
        rcases hD with⟨_,_,_,z,_⟩ | ⟨p',xx',y,z,_,_,_,hy,ew,eh⟩
        ·rw[hd] at z;cases z
        ·rw[hd] at z
         injection z with z
         injection z with z1 z2
         injection z1 with z1
         injection z2 with z2
         have z1':p=p':=by lia
         subst z1';subst z2
         exact⟨y,hy,ew,eh⟩
       subst ew
       have st19:=k19.stay W18.K.ls (bA_ _ _)
       have A19:=A18.ksl W18.K hneW k19
       have B19:=W18.A.ksl W18.K hneW k19
       have S19:=aV_ S18 hsl k19
       have D19:=D18.stay st19
       have Kq19:=K18.stay st19 (by rw[k19 _ _ K18.ls (by simpa using nslq'),K18.ls])
       have W19:W6 C H19 st kp dx sl (as++[xn]) b ps (ini++[ws]) (ws.set p xx) s1 f1 a c1 e1 ks1 hist1:=⟨W18.S.stay st19,K19,fun y hy=>by
        rcases List.mem_append.mp hy with h | h
        ·exact W18.ko y h
        ·rw[List.mem_singleton.mp h];exact⟨W18.S.off nxa,W18.S.off nxc⟩,A19,W18.na,nc1',hr1,by rw[eh1];exact W18.ch.weigh hy⟩
       refine⟨_,rfl,.tuple [.int (evN b ps ws),.int (evN b ps (ws.set p xx))],.str "other",datT ht (.cons (datI _) (.cons (datI _) .nil)),datS _,⟨rfl,dK_,by simp[PyData.depth,PyData.depthAll]⟩,?_⟩
       rw[if_neg (by decide),show PyData.eqv (.tuple [.int (evN b ps ws),.int (evN b ps (ws.set p xx))]) (.str "other")=false from rfl]
       refine⟨_,rfl,iteF ⟨_,rfl,rfl,_,rfl,?_⟩⟩
       have D19':=D19
       rcases D19 with⟨_,z⟩ | ⟨t',pl,wt,edv,z,_⟩
       ·rw[hd] at z;cases z
       ·rw[show(!decide (dv=V.non))=true by rw[edv];simp]
        refine iteT ⟨_,rfl,_,rfl,_,rfl,_,rfl,kq,dq,slq,[xq],b,ps,[],ws,[],dv,.str "",d,rfl,Kq19,rfl,by simp,D19',?_,?_,?_⟩
        ·intro i0 wz ai t2 H20 hd2
         rw[hd] at hd2
         cases hd2
        ·intro p2 x2 t2 xn2 H20 hd2 hp2 _ _ nt2 ht2 nxa2 nxc2 K20 k20
         have z1:V.int (p:Int)=V.int (p2:Int)/\V.int xx=V.int x2:=by rw[hd] at hd2;injection hd2 with hd2;injection hd2 with q1 q2;exact⟨q1,q2⟩
         obtain⟨z1,z2⟩:=z1
         injection z1 with z1
         injection z2 with z2
         have z1':p=p2:=by lia
         subst z1';subst z2
         have st20:=k20.stay Kq19.ls (bA_ _ _)
         have A20:=A19.ksl Kq19 (by simp) k20
         have B20:=B19.ksl Kq19 (by simp) k20
         have S20:=aV_ S19 hslq k20
         have D20:=D19'.stay st20
         have ht20:=st20 _ _ ht en_
         have W20:W6 C H20 st kp dx sl (as++[xn]) b ps (ini++[ws]) (ws.set p xx) s1 f1 a c1 e1 ks1 hist1:=⟨W19.S.stay st20,W19.K.stay st20 (by rw[k20 _ _ W19.K.ls (by simpa using nslq'.symm),W19.K.ls]),W19.ko,A20,W19.na,W19.nc,W19.hr,W19.ch⟩
         have kq20:∀y∈[xq]++[xn2],y.2.1≠st/\y.2.2≠st:=fun y hy=>by
          rcases List.mem_append.mp hy with h | h
          ·exact kq18 y h
          ·rw[List.mem_singleton.mp h];exact⟨W19.S.off nxa2,W19.S.off nxc2⟩
         refine L2.bZ_ (datT ht20 (.cons (datI _) (.cons (datI _) .nil))) (datT ht2 (.cons (datI _) (.cons (datI _) .nil))) rfl (by simp[PyData.depth,PyData.depthAll]) ⟨_,rfl,iteF ⟨_,?_,key⟩⟩
         refine⟨_,rfl,rfl,_,rfl,?_⟩
         rw[decide_eq_true rfl]
         refine iteT ⟨_,rfl,_,rfl,_,_,_,_,rfl,rfl,SqT.of B20.hs,rfl,f,a,c',b,ps,ws,rfl,B20.fr,fun H21 s21=>?_⟩
         have A21:=A20.keep s21
         refine⟨_,rfl,_,_,_,_,rfl,rfl,SqT.of A21.hs,rfl,f1,a,c1,b,ps,ws.set p xx,rfl,A21.fr,fun H22 s22=>⟨sz (by simp),fun tt htt=>?_⟩⟩
         have t22:=s21.trans s22
         have s23:=f_ (o:=.tup [.int (evN b ps ws),.int (evN b ps (ws.set p xx))]) htt
         refine L2.bZ_ (datT (s23 _ _ (t22 _ _ ht20)) (.cons (datI _) (.cons (datI _) .nil))) (datT d_ (.cons (datI _) (.cons (datI _) .nil))) rfl (by simp[PyData.depth,PyData.depthAll]) ⟨_,rfl,iteF ⟨_,rfl,?_⟩⟩
         have T23:=t22.trans s23
         exact⟨_,_,kq,dq,slq,[xq]++[xn2],[]++[ws],ws.set p xx,_,as++[xn],ini++[ws],ws.set p xx,s1,f1,c1,e1,ks1,hist1,rfl,W20.keep T23,by rw[eh1];simp;lia,S20.trans T23,D20.keep T23,K20.keep T23,kq20,fun _=>rfl⟩
        ·intro wd2 hW2
         rw[hd] at hW2
         exact(hW2.noW hp h1 h2).elim
    case key =>
     rintro σ H16 ⟨v9,v10,kq,dq,slq,aq,iq,wq,v12,as,ini,ws,s',f,c',e,ks,hist,rfl,W16,hl16,S16,D16,Kq16,koq,hq2⟩
     refine⟨fun σ H'=>∃L v7 v8 v9 v10 v11 v12 as ini ws s f c e ks hist,σ=[some (.ref a0),some (.int (i:Int)),some (.ref st),some (.ref f0),some (.ref kp),some (.ref s),some (.int L),v7,v8,v9,v10,v11,v12]/\W6 C H' st kp dx sl as b ps ini ws s f a c e ks hist/\hist.length<=j+1/\Same H H',?iff,fun _ _ h=>h⟩
     case iff =>
      refine⟨_,rfl,st,4,rfl,W16.S,by decide,by decide,fun r1 H17 r10 r11 E17 k17=>⟨rfl,_,rfl,?_⟩⟩
      have W17:=W16.kst k17 E17
      have S17:=aV_ S16 hq k17
      have D17:=D16.kst W16.S k17
      have Kq17:=Kq16.kst Kq16.ne W16.S k17 koq
      refine ite2 (fun _=>?_) (fun _=>iteF ⟨L,_,_,_,_,_,_,as,ini,ws,s',f,c',e,ks,hist,rfl,W17,hl16,S17⟩)
      refine⟨_,rfl,_,_,rfl,rfl,_,rfl,ite2 (fun _=>?_) (fun _=>⟨L,_,_,_,_,_,_,as,ini,ws,s',f,c',e,ks,hist,rfl,W17,hl16,S17⟩)⟩
      refine⟨_,rfl,_,_,rfl,rfl,?_⟩
      refine⟨_,rfl,_,rfl,_,rfl,_,_,_,_,rfl,rfl,SqT.of W17.A.hs,rfl,st,kp,dx,sl,f,a,c',as,b,ps,ini,ws,rfl,W17.S,W17.K,W17.ko,W17.A.fr,W17.na,W17.nc,fun H18 E18 k18=>⟨_,rfl,iteF ?_⟩⟩
      have W18:=W17.kst k18 E18
      have S18:=aV_ S17 hq k18
      have D18:=D17.kst W17.S k18
      have Kq18:=Kq17.kst Kq17.ne W17.S k18 koq
      refine⟨_,rfl,rfl,_,rfl,?_⟩
      rcases D18 with⟨rfl,rfl⟩ | ⟨t,pl,wt,rfl,rfl,ht,d1,d2⟩
      ·rw[ps_]
       exact iteF (iteF ⟨_,_,_,_,_,_,_,as,ini,ws,s',f,c',e,ks,hist,rfl,W18,hl16,S18⟩)
      ·rw[pr_]
       have ew:=hq2 (by simp)
       subst ew
       refine iteT ⟨_,rfl,kq,dq,_,rfl,Kq18.ob,aL_ (by decide +kernel),kq,dq,slq,aq,b,ps,iq,wq,rfl,Kq18,fun ft at' ct H19 s19 G19 _ _ _=>?_⟩
       have W19:=W18.keep s19
       refine⟨_,rfl,_,_,_,_,rfl,rfl,SqT.of W19.A.hs,rfl,L2.bZ_ G19.dat W19.A.fr.dat (lJ_ _ _ _) (gn_ _ _ _) ⟨_,rfl,iteF ?_⟩⟩
       exact⟨_,_,_,_,_,_,_,as,ini,wq,s',f,c',e,ks,hist,rfl,W19,hl16,S18.trans s19⟩
   ·rintro σ H14 ⟨L,v7,v8,v9,v10,v11,v12,as,ini,ws,s',f,c',e,ks,hist,rfl,W14,hl14,S14⟩
    refine⟨_,rfl,_,rfl,_,rfl,_,_,_,_,rfl,rfl,SqT.of W14.A.hs,rfl,st,kp,dx,sl,f,a,c',as,b,ps,ini,ws,rfl,W14.S,W14.K,W14.ko,W14.A.fr,W14.na,W14.nc,fun H15 E15 k15=>⟨_,rfl,iteF ?_⟩⟩
    exact⟨_,_,_,_,_,_,_,_,_,_,_,_,rfl,aV_ S14 hq k15⟩
  ·rintro σ H2 ⟨v1,v2,v3,v4,v5,v6,v7,v8,v9,v10,v11,v12,rfl,s2⟩
   exact k _
end
structure FnIn(K:PySem.W.Frag)(x:Str)(st:Stmt):Prop where
 ex:∃(f:Addr) (oc:Value) (od an:Option Addr) (osl:Array (Option Value)) (kV doc pm cdv ct:Value),PySem.W.nsIn K mainGlobals x=some (some (.ref f))/\
  K.lookup f=some ⟨oc,od,.func (PySem.W.fnOf x x (aa_ st) (v_ st) (g_ st) .none kV doc pm an cdv ct),osl⟩/\PySem.W.codeIn K cdv x=true/\PySem.W.keepIn K (.ref f)=true
theorem rx_{K:PySem.W.Frag}{x:Str}{st:Stmt}{f:Addr}{oc:Value}{od an:Option Addr}{osl:Array (Option Value)}{kV doc pm cdv ct:Value}(a:PySem.W.nsIn K mainGlobals x=some (some (.ref f)))
  (l:K.lookup f=some ⟨oc,od,.func (PySem.W.fnOf x x (aa_ st) (v_ st) (g_ st) .none kV doc pm an cdv ct),osl⟩) (c:PySem.W.codeIn K cdv x=true) (k:PySem.W.keepIn K (.ref f)=true):FnIn K x st:=⟨f,oc,od,an,osl,kV,doc,pm,cdv,ct,a,l,c,k⟩
structure TxtIn(K:PySem.W.Frag):Prop where
 isi:PySem.W.nsIn K mainGlobals "isinstance"=some none
 int:PySem.W.nsIn K mainGlobals "int"=some none
 bool:PySem.W.nsIn K mainGlobals "bool"=some none
 list:PySem.W.nsIn K mainGlobals "list"=some none
 tuple:PySem.W.nsIn K mainGlobals "tuple"=some none
 all:PySem.W.nsIn K mainGlobals "all"=some none
 len:PySem.W.nsIn K mainGlobals "len"=some none
 sum:PySem.W.nsIn K mainGlobals "sum"=some none
 range:PySem.W.nsIn K mainGlobals "range"=some none
 max:PySem.W.nsIn K mainGlobals "max"=some none
 min:PySem.W.nsIn K mainGlobals "min"=some none
 rev:PySem.W.nsIn K mainGlobals "reversed"=some none
 zip:PySem.W.nsIn K mainGlobals "zip"=some none
 enum:PySem.W.nsIn K mainGlobals "enumerate"=some none
theorem us0{p:List Value->Prop}(h:p [])(us:List Value)(hl:us.length=0):p us:=by rw[List.eq_nil_of_length_eq_zero hl];exact h
theorem usS{n:Nat}{p:List Value->Prop}(h:∀a r,r.length=n->p (a::r))(us:List Value)(hl:us.length=n+1):p us:=by
 cases us with
 | nil=>cases hl
 | cons a r=>exact h a r (Nat.succ.inj hl)
theorem us1{p:List Value->Prop}(h:∀a,p [a]):∀us:List Value,us.length=1->p us:=usS fun a=>us0 (p:=fun r=>p (a::r)) (h a)
theorem us2{p:List Value->Prop}(h:∀a b,p [a,b]):∀us:List Value,us.length=2->p us:=usS fun a=>us1 (p:=fun r=>p (a::r)) (h a)
theorem us3{p:List Value->Prop}(h:∀a b c,p [a,b,c]):∀us:List Value,us.length=3->p us:=usS fun a=>us2 (p:=fun r=>p (a::r)) (h a)
theorem us4{p:List Value->Prop}(h:∀a b c d,p [a,b,c,d]):∀us:List Value,us.length=4->p us:=usS fun a=>us3 (p:=fun r=>p (a::r)) (h a)
theorem us5{p:List Value->Prop}(h:∀a b c d e,p [a,b,c,d,e]):∀us:List Value,us.length=5->p us:=usS fun a=>us4 (p:=fun r=>p (a::r)) (h a)
section
variable{P:Program}{w:World}{K:PySem.W.Frag}{mg:Str->Option Value}{base h:Heap}
theorem TxtIn.txt(T:TxtIn K)(X:K.In h)(G:h.Ns mainGlobals mg):Txt mg :=
 have e:∀x,PySem.W.nsIn K mainGlobals x=some none->mg x=none:=fun x z=>PySem.W.mg_none_of X G z
 ⟨e _ T.isi,e _ T.int,e _ T.bool,e _ T.list,e _ T.tuple,e _ T.all,e _ T.len,e _ T.sum,e _ T.range,e _ T.max,e _ T.min,e _ T.rev,e _ T.zip,e _ T.enum⟩
theorem r_{x:Str}{st:Stmt}{k:Nat}{ps:List Str}{sp:Sp}(D:FnIn K x st)(X:K.In h)(G:h.Ns mainGlobals mg)(ok:∀f fd,Fun K x x st f fd->FnOk P w K mg base CX0 k f fd ps sp)
  (hb:∀(kV doc pm:Value) (an:Option Addr) (cdv ct:Value) (us:List Value),us.length=ps.length->bindArgs (PySem.W.fnOf x x (aa_ st) (v_ st) (g_ st) .none kV doc pm an cdv ct) ⟨us,[]⟩=pure (ps.zip us)):Def P w K mg base k x ps sp:=by
 obtain⟨f,oc,od,an,osl,kV,doc,pm,cdv,ct,a,l,c,kp⟩:=D.ex
 have F:=er_ (st:=st) l c kp
 exact⟨f,_,ok _ _ F,PySem.W.mg_of X G a,kp,F.binds hb⟩
end
theorem pN_{P:Program}{w:World}{K:PySem.W.Frag}{mg:Str->Option Value}{base h:Heap}{x:Str}{st:Stmt}{k:Nat}{ps:List Str}{sp:Sp}(D:FnIn K x st)(X:K.In h)(G:h.Ns mainGlobals mg)(ok:∀f fd,Fun K x x st f fd->FnOk P w K mg base (CX1 P w) k f fd ps sp)
  (hb:∀(kV doc pm:Value) (an:Option Addr) (cdv ct:Value) (us:List Value),us.length=ps.length->bindArgs (PySem.W.fnOf x x (aa_ st) (v_ st) (g_ st) .none kV doc pm an cdv ct) ⟨us,[]⟩=pure (ps.zip us)):Def1 P w K mg base k x ps sp:=by
 obtain⟨f,oc,od,an,osl,kV,doc,pm,cdv,ct,a,l,c,kp⟩:=D.ex
 have F:=er_ (st:=st) l c kp
 exact⟨f,_,ok _ _ F,PySem.W.mg_of X G a,kp,F.binds hb⟩
structure MthIn(K:PySem.W.Frag)(C:Addr)(m qual:Str)(st:Stmt):Prop where
 ex:∃(f:Addr) (oc:Value) (od an:Option Addr) (osl:Array (Option Value)) (kV doc pm cdv ct:Value),PySem.W.findIn K (.ref C) m=some (some (.ref f))/\PySem.W.isFn K (.ref f)=true/\
  K.lookup f=some ⟨oc,od,.func (PySem.W.fnOf m qual (aa_ st) (v_ st) (g_ st) .none kV doc pm an cdv ct),osl⟩/\PySem.W.codeIn K cdv qual=true/\PySem.W.keepIn K (.ref f)=true
theorem dE_{K:PySem.W.Frag}{C:Addr}{m qual:Str}{st:Stmt}{f:Addr}{oc:Value}{od an:Option Addr}{osl:Array (Option Value)}{kV doc pm cdv ct:Value}(a:PySem.W.findIn K (.ref C) m=some (some (.ref f)))(i:PySem.W.isFn K (.ref f)=true)
  (l:K.lookup f=some ⟨oc,od,.func (PySem.W.fnOf m qual (aa_ st) (v_ st) (g_ st) .none kV doc pm an cdv ct),osl⟩) (c:PySem.W.codeIn K cdv qual=true) (k:PySem.W.keepIn K (.ref f)=true):MthIn K C m qual st:=⟨f,oc,od,an,osl,kV,doc,pm,cdv,ct,a,i,l,c,k⟩
section
variable{P:Program}{w:World}{K:PySem.W.Frag}{mg:Str->Option Value}{base:Heap}
theorem cI_{C:Addr}{m qual:Str}{st:Stmt}{k:Nat}{ps:List Str}{sp:Sp}(D:MthIn K C m qual st)(ok:∀f fd,Fun K m qual st f fd->FnOk P w K mg base CX0 k f fd ps sp)
  (hb:∀(kV doc pm:Value) (an:Option Addr) (cdv ct:Value) (us:List Value),us.length=ps.length->bindArgs (PySem.W.fnOf m qual (aa_ st) (v_ st) (g_ st) .none kV doc pm an cdv ct) ⟨us,[]⟩=pure (ps.zip us)):MDef P w K mg base k C m ps sp:=by
 obtain⟨f,oc,od,an,osl,kV,doc,pm,cdv,ct,a,i,l,c,kp⟩:=D.ex
 have F:=er_ (st:=st) l c kp
 exact⟨f,_,ok _ _ F,⟨a,i,kp⟩,F.binds hb⟩
theorem pQ_{C:Addr}{x qual:Str}{st:Stmt}{k:Nat}{ps:List Str}{sp:Sp}(D:MthIn K C "__init__" qual st)(mk:PySem.W.makesIn K C=true)(kc:PySem.W.keepIn K (.ref C)=true)(hx:mg x=some (.ref C))(ok:∀f fd,Fun K "__init__" qual st f fd->FnOk P w K mg base CX0 k f fd ps sp)
  (hb:∀(kV doc pm:Value) (an:Option Addr) (cdv ct:Value) (us:List Value),us.length=ps.length->bindArgs (PySem.W.fnOf "__init__" qual (aa_ st) (v_ st) (g_ st) .none kV doc pm an cdv ct) ⟨us,[]⟩=pure (ps.zip us)):CDef P w K mg base k x C ps sp:=by
 obtain⟨f,oc,od,an,osl,kV,doc,pm,cdv,ct,a,i,l,c,kp⟩:=D.ex
 have F:=er_ (st:=st) l c kp
 exact⟨f,_,ok _ _ F,⟨mk,a,i,kc⟩,hx,F.binds hb⟩
theorem iQ_{C:Addr}{m qual:Str}{st:Stmt}{k:Nat}{ps:List Str}{sp:Sp}(D:MthIn K C m qual st)(ok:∀f fd,Fun K m qual st f fd->FnOk P w K mg base (CX1 P w) k f fd ps sp)
  (hb:∀(kV doc pm:Value) (an:Option Addr) (cdv ct:Value) (us:List Value),us.length=ps.length->bindArgs (PySem.W.fnOf m qual (aa_ st) (v_ st) (g_ st) .none kV doc pm an cdv ct) ⟨us,[]⟩=pure (ps.zip us)):MDef1 P w K mg base k C m ps sp:=by
 obtain⟨f,oc,od,an,osl,kV,doc,pm,cdv,ct,a,i,l,c,kp⟩:=D.ex
 have F:=er_ (st:=st) l c kp
 exact⟨f,_,ok _ _ F,⟨a,i,kp⟩,F.binds hb⟩
end
theorem rq_{l:PySem.W.OpenLaw}{w:World}{K:PySem.W.Frag}{h:Heap}{mg:Str->Option Value}{fa:Addr}(X:K.In h)(G:h.Ns mainGlobals mg)(hfa:mg "law"=some (.ref fa))(TI:TxtIn K)
  (i0:FnIn K "is_whole" kJ_)
  (i1:FnIn K "is_between" sBetw)
  (i2:FnIn K "is_list_between" iq_)
  (i3:FnIn K "is_frame" eO_)
  (i4:FnIn K "need_frame" cB_)
  (i5:FnIn K "how_many" eP_)
  (i6:FnIn K "need_number" bP_)
  (i7:FnIn K "cut_by_parts" sCut)
  (i8:FnIn K "figures_of" cE_)
  (i9:FnIn K "part_sums" aM_)
  (i10:FnIn K "misses_by" dC_)
  (i11:FnIn K "is_even" hd_)
  (i12:FnIn K "with_one_more_figure" eM_)
  (i13:FnIn K "ways_of_weights" ip_)
  (i14:FnIn K "ways_of_parts" bw_)
  (i15:FnIn K "ways_with" dy_)
  (i16:FnIn K "even_by_sums" he_)
  (i17:FnIn K "count_even" cG_)
  (i18:FnIn K "weighted_sum" bo_)
  (i19:FnIn K "number_of" dz_)
  (i20:FnIn K "part_beginnings" bz_)
  (i21:FnIn K "stretches_below" bx_)
  (i22:FnIn K "need_miss" dB_)
  (i23:FnIn K "running_counts" eL_)
  (i24:FnIn K "ways_within" hb_)
  (i25:FnIn K "count_spread_within" by_)
  (i26:FnIn K "tails_of_part" aA_)
  (i27:FnIn K "tails_of_parts" ao_)
  (i28:FnIn K "ways_from_beginnings" T_)
  (i29:FnIn K "count_begun" bT_)
  (i30:FnIn K "count_below" au_)
  (i31:FnIn K "count_near" cF_)
  (i32:FnIn K "figure_and_rest" aH_)
  (i33:FnIn K "number_at" dA_)
  (i34:FnIn K "need_place" cA_)
  (i35:FnIn K "near_by" hc_)
  (i36:FnIn K "even_by" eQ_)
  (i37:FnIn K "copy_of" hf_)
  (i38:FnIn K "with_weight" aW_)
  (i39:FnIn K "_law_cell" sCell)
  (i40:FnIn K "_law_store" kK_)
  (i41:FnIn K "_law_take" sTake)
  (i42:FnIn K "_law_frame" is_)
  (i43:FnIn K "_law_kind" aB_)
  (i44:FnIn K "_law_is_from" cC_)
  (i45:FnIn K "_law_due" sDue)
  (i46:FnIn K "_law_deed" L_)
  (i47:FnIn K "_law_asked" bp_)
  (i48:FnIn K "_law_copy" sCopy)
  (i49:FnIn K "_law_d" sLawD)
  (i50:FnIn K "_law_as_anew" cD_)
  {C:Addr} (aC:PySem.W.nsIn K mainGlobals "Keeper"=some (some (.ref C))) (pgC:PySem.W.plainGet K C Str.empty=true) (hdC:PySem.W.hasDictIn K C=true) (poC:PySem.W.plainOver K C=true) (saC:PySem.W.findIn K (.ref C) "__setattr__"=some (some (.builtin "object.__setattr__"))) (mkC:PySem.W.makesIn K C=true) (kC:PySem.W.keepIn K (.ref C)=true) (nS:PySem.W.findIn K (.ref C) "standing"=some none)
  (jm0:MthIn K C "__init__" "Keeper.__init__" bR_)
  (jm1:MthIn K C "changes" "Keeper.changes" aG_)
  (jm2:MthIn K C "frame" "Keeper.frame" bq_)
  (jm3:MthIn K C "near" "Keeper.near" bQ_)
  (jm4:MthIn K C "even" "Keeper.even" bS_)
  (jm5:MthIn K C "weigh" "Keeper.weigh" aC_)
  (jm6:MthIn K C "undo" "Keeper.undo" aX_)
  {cB c0 c1 c2 c3 c4 c5 c6 c7 c8 c9:Addr} (eB:PySem.W.nsIn K mainGlobals "HalfError"=some (some (.ref cB)))
  (e0:PySem.W.nsIn K mainGlobals "NoFrame"=some (some (.ref c0)))
  (e1:PySem.W.nsIn K mainGlobals "NoNumber"=some (some (.ref c1)))
  (e2:PySem.W.nsIn K mainGlobals "NoPart"=some (some (.ref c2)))
  (e3:PySem.W.nsIn K mainGlobals "NoSum"=some (some (.ref c3)))
  (e4:PySem.W.nsIn K mainGlobals "NoMiss"=some (some (.ref c4)))
  (e5:PySem.W.nsIn K mainGlobals "NoEven"=some (some (.ref c5)))
  (e6:PySem.W.nsIn K mainGlobals "NoFrames"=some (some (.ref c6)))
  (e7:PySem.W.nsIn K mainGlobals "NoText"=some (some (.ref c7)))
  (e8:PySem.W.nsIn K mainGlobals "NoName"=some (some (.ref c8)))
  (e9:PySem.W.nsIn K mainGlobals "NoRow"=some (some (.ref c9)))
  (tB:PySem.W.typeIn K (.ref cB)=some (.type "type")) (mB:PySem.W.mroIn K cB (.type "BaseException")=some true)
  (q1:PySem.W.excIn K c1 [.type "ValueError",.type "Exception",.type "BaseException",.type "object"] "ValueError.__new__"=true) (m1:PySem.W.mroIn K c1 (.ref cB)=some true) (l1:ClsE K c1) (v1:PySem.W.kitOne K (.ref c1) (.type "ValueError")=some true)
  (k1_0:PySem.W.kitOne K (.ref c1) (.ref c0)=some false)
  (k1_1:PySem.W.kitOne K (.ref c1) (.ref c1)=some true)
  (k1_2:PySem.W.kitOne K (.ref c1) (.ref c2)=some false)
  (k1_3:PySem.W.kitOne K (.ref c1) (.ref c3)=some false)
  (k1_4:PySem.W.kitOne K (.ref c1) (.ref c4)=some false)
  (k1_5:PySem.W.kitOne K (.ref c1) (.ref c5)=some false)
  (k1_6:PySem.W.kitOne K (.ref c1) (.ref c6)=some false)
  (k1_7:PySem.W.kitOne K (.ref c1) (.ref c7)=some false)
  (k1_8:PySem.W.kitOne K (.ref c1) (.ref c8)=some false)
  (k1_9:PySem.W.kitOne K (.ref c1) (.ref c9)=some false)
  (q2:PySem.W.excIn K c2 [.type "ValueError",.type "Exception",.type "BaseException",.type "object"] "ValueError.__new__"=true) (m2:PySem.W.mroIn K c2 (.ref cB)=some true) (l2:ClsE K c2) (v2:PySem.W.kitOne K (.ref c2) (.type "ValueError")=some true)
  (k2_0:PySem.W.kitOne K (.ref c2) (.ref c0)=some false)
  (k2_1:PySem.W.kitOne K (.ref c2) (.ref c1)=some false)
  (k2_2:PySem.W.kitOne K (.ref c2) (.ref c2)=some true)
  (k2_3:PySem.W.kitOne K (.ref c2) (.ref c3)=some false)
  (k2_4:PySem.W.kitOne K (.ref c2) (.ref c4)=some false)
  (k2_5:PySem.W.kitOne K (.ref c2) (.ref c5)=some false)
  (k2_6:PySem.W.kitOne K (.ref c2) (.ref c6)=some false)
  (k2_7:PySem.W.kitOne K (.ref c2) (.ref c7)=some false)
  (k2_8:PySem.W.kitOne K (.ref c2) (.ref c8)=some false)
  (k2_9:PySem.W.kitOne K (.ref c2) (.ref c9)=some false)
  (ndict:PySem.W.nsIn K mainGlobals "dict"=some none)
  (nsorted:PySem.W.nsIn K mainGlobals "sorted"=some none)
  (nstr:PySem.W.nsIn K mainGlobals "str"=some none)
  (nValueError:PySem.W.nsIn K mainGlobals "ValueError"=some none)
  (jl:FnIn K "law" sLaw) :
  ∃fd:FuncData,(∀(s:Shared) (v:Value),BindsTo s fd ⟨[v],[]⟩ [("script",v)])/\∀base:Heap,K.In base->base.Ns mainGlobals mg->FnOk l.prog w K mg base CX0 16 fa fd ["script"] (spLaw K):=by
 have T:=TI.txt X G
 obtain⟨f,oc,od,an,osl,kV,doc,pm,cdv,ct,a,lk,c,kp⟩:=jl.ex
 have e:=hfa.symm.trans (PySem.W.mg_of X G a)
 cases e
 have F:=er_ (st:=sLaw) lk c kp
 refine⟨PySem.W.fnOf "law" "law" (aa_ sLaw) (v_ sLaw) (g_ sLaw) .none kV doc pm an cdv ct,fun s v=>.of_eq rfl,fun base BX _=>?_⟩
 have ndict:mg "dict"=none:=PySem.W.mg_none_of X G ndict
 have nsorted:mg "sorted"=none:=PySem.W.mg_none_of X G nsorted
 have nstr:mg "str"=none:=PySem.W.mg_none_of X G nstr
 have nValueError:mg "ValueError"=none:=PySem.W.mg_none_of X G nValueError
 have en:ErrNames mg (cs [c0,c1,c2,c3,c4,c5,c6,c7,c8,c9]):=⟨PySem.W.mg_of X G e0,PySem.W.mg_of X G e1,PySem.W.mg_of X G e2,PySem.W.mg_of X G e3,PySem.W.mg_of X G e4,PySem.W.mg_of X G e5,PySem.W.mg_of X G e6,PySem.W.mg_of X G e7,PySem.W.mg_of X G e8,PySem.W.mg_of X G e9,nValueError⟩
 have o1:=qz_ PySem.F.excBase_ValueError BX q1
 have u1:Up K c1 cB:=⟨m1,mB,tB⟩
 have y1:Kind K (cs [c0,c1,c2,c3,c4,c5,c6,c7,c8,c9]) c1 1:=⟨l1,by decide,fun j hj=>match j,hj with | 0,_=>k1_0 | 1,_=>k1_1 | 2,_=>k1_2 | 3,_=>k1_3 | 4,_=>k1_4 | 5,_=>k1_5 | 6,_=>k1_6 | 7,_=>k1_7 | 8,_=>k1_8 | 9,_=>k1_9,v1⟩
 have o2:=qz_ PySem.F.excBase_ValueError BX q2
 have u2:Up K c2 cB:=⟨m2,mB,tB⟩
 have y2:Kind K (cs [c0,c1,c2,c3,c4,c5,c6,c7,c8,c9]) c2 2:=⟨l2,by decide,fun j hj=>match j,hj with | 0,_=>k2_0 | 1,_=>k2_1 | 2,_=>k2_2 | 3,_=>k2_3 | 4,_=>k2_4 | 5,_=>k2_5 | 6,_=>k2_6 | 7,_=>k2_7 | 8,_=>k2_8 | 9,_=>k2_9,v2⟩
 have cl:Cls K C:=⟨pgC,hdC,poC,saC⟩
 have d_is_whole:Def l.prog w K mg base 1 "is_whole" ["thing"] dm_:=r_ i0 X G (fun _ _ F=>mS_ F T) fun _ _ _ _ _ _=>us1 fun _=>rfl
 have d_is_between:Def l.prog w K mg base 2 "is_between" ["thing","least","greatest"] bH_:=r_ i1 X G (fun _ _ F=>pn_ F d_is_whole) fun _ _ _ _ _ _=>us3 fun _ _ _=>rfl
 have d_is_list_between:Def l.prog w K mg base 3 "is_list_between" ["thing","least","greatest"] gQ_:=r_ i2 X G (fun _ _ F=>mV_ F T d_is_between) fun _ _ _ _ _ _=>us3 fun _ _ _=>rfl
 have d_is_frame:Def l.prog w K mg base 4 "is_frame" ["thing"] dr_:=r_ i3 X G (fun _ _ F=>jw_ F T d_is_between d_is_list_between) fun _ _ _ _ _ _=>us1 fun _=>rfl
 have d_need_frame:Def l.prog w K mg base 5 "need_frame" ["thing"] K_:=r_ i4 X G (fun _ _ F=>ga_ F d_is_frame) fun _ _ _ _ _ _=>us1 fun _=>rfl
 have d_how_many:Def l.prog w K mg base 6 "how_many" ["frame"] bi_:=r_ i5 X G (fun _ _ F=>jx_ F T d_need_frame) fun _ _ _ _ _ _=>us1 fun _=>rfl
 have d_need_number:Def l.prog w K mg base 7 "need_number" ["frame","thing"] bh_:=r_ i6 X G (fun _ _ F=>fa_ F d_is_between d_how_many) fun _ _ _ _ _ _=>us2 fun _ _=>rfl
 have d_cut_by_parts:Def l.prog w K mg base 1 "cut_by_parts" ["frame","row"] spCut:=r_ i7 X G (fun _ _ F=>qF_ F) fun _ _ _ _ _ _=>us2 fun _ _=>rfl
 have d_figures_of:Def l.prog w K mg base 8 "figures_of" ["frame","n"] cc_:=r_ i8 X G (fun _ _ F=>gd_ F T d_need_frame d_need_number) fun _ _ _ _ _ _=>us2 fun _ _=>rfl
 have d_part_sums:Def l.prog w K mg base 9 "part_sums" ["frame","n"] ku_:=r_ i9 X G (fun _ _ F=>hs_ F T d_figures_of d_cut_by_parts) fun _ _ _ _ _ _=>us2 fun _ _=>rfl
 have d_misses_by:Def l.prog w K mg base 10 "misses_by" ["frame","n"] eH_:=r_ i10 X G (fun _ _ F=>li_ F T d_part_sums) fun _ _ _ _ _ _=>us2 fun _ _=>rfl
 have d_is_even:Def l.prog w K mg base 11 "is_even" ["frame","n"] kw_:=r_ i11 X G (fun _ _ F=>pk_ F d_misses_by) fun _ _ _ _ _ _=>us2 fun _ _=>rfl
 have d_with_one_more_figure:Def l.prog w K mg base 1 "with_one_more_figure" ["ways","base","weight"] dp_:=r_ i12 X G (fun _ _ F=>ju_ F T) fun _ _ _ _ _ _=>us3 fun _ _ _=>rfl
 have d_ways_of_weights:Def l.prog w K mg base 2 "ways_of_weights" ["base","weights"] eD_:=r_ i13 X G (fun _ _ F=>mT_ F T ndict nsorted d_with_one_more_figure) fun _ _ _ _ _ _=>us2 fun _ _=>rfl
 have d_ways_of_parts:Def l.prog w K mg base 3 "ways_of_parts" ["frame"] aT_:=r_ i14 X G (fun _ _ F=>fW_ F T d_cut_by_parts d_ways_of_weights) fun _ _ _ _ _ _=>us1 fun _=>rfl
 have d_ways_with:Def l.prog w K mg base 1 "ways_with" ["ways_by_part","total"] cw_:=r_ i15 X G (fun _ _ F=>hq_ F) fun _ _ _ _ _ _=>us2 fun _ _=>rfl
 have d_even_by_sums:Def l.prog w K mg base 6 "even_by_sums" ["frame"] eI_:=r_ i16 X G (fun _ _ F=>lm_ F d_need_frame d_ways_of_parts d_ways_with) fun _ _ _ _ _ _=>us1 fun _=>rfl
 have d_count_even:Def l.prog w K mg base 7 "count_even" ["frame"] af_:=r_ i17 X G (fun _ _ F=>gf_ F T d_even_by_sums) fun _ _ _ _ _ _=>us1 fun _=>rfl
 have d_weighted_sum:Def l.prog w K mg base 1 "weighted_sum" ["figures","weights"] cv_:=r_ i18 X G (fun _ _ F=>hp_ F T) fun _ _ _ _ _ _=>us2 fun _ _=>rfl
 have d_number_of:Def l.prog w K mg base 1 "number_of" ["base","figures"] cy_:=r_ i19 X G (fun _ _ F=>ht_ F) fun _ _ _ _ _ _=>us2 fun _ _=>rfl
 have d_part_beginnings:Def l.prog w K mg base 1 "part_beginnings" ["frame","head","end"] bN_:=r_ i20 X G (fun _ _ F=>fY_ F T) fun _ _ _ _ _ _=>us3 fun _ _ _=>rfl
 have d_stretches_below:Def l.prog w K mg base 9 "stretches_below" ["frame","n"] bM_:=r_ i21 X G (fun _ _ F=>fX_ F T d_how_many d_figures_of) fun _ _ _ _ _ _=>us2 fun _ _=>rfl
 have d_need_miss:Def l.prog w K mg base 2 "need_miss" ["thing"] bv_:=r_ i22 X G (fun _ _ F=>hv_ F d_is_whole) fun _ _ _ _ _ _=>us1 fun _=>rfl
 have d_running_counts:Def l.prog w K mg base 1 "running_counts" ["ways","low","high"] do_:=r_ i23 X G (fun _ _ F=>jt_ F T) fun _ _ _ _ _ _=>us3 fun _ _ _=>rfl
 have d_ways_within:Def l.prog w K mg base 1 "ways_within" ["running_by_part","start","end"] eB_:=r_ i24 X G (fun _ _ F=>le_ F) fun _ _ _ _ _ _=>us3 fun _ _ _=>rfl
 have d_count_spread_within:Def l.prog w K mg base 2 "count_spread_within" ["ways_by_part","width"] cZ_:=r_ i25 X G (fun _ _ F=>lh_ F T d_running_counts d_ways_within) fun _ _ _ _ _ _=>us2 fun _ _=>rfl
 have d_tails_of_part:Def l.prog w K mg base 3 "tails_of_part" ["base","weights"] eE_:=r_ i26 X G (fun _ _ F=>lg_ F T d_ways_of_weights) fun _ _ _ _ _ _=>us2 fun _ _=>rfl
 have d_tails_of_parts:Def l.prog w K mg base 4 "tails_of_parts" ["frame"] dn_:=r_ i27 X G (fun _ _ F=>js_ F d_cut_by_parts d_tails_of_part) fun _ _ _ _ _ _=>us1 fun _=>rfl
 have d_ways_from_beginnings:Def l.prog w K mg base 2 "ways_from_beginnings" ["rows","weights","tails"] cx_:=r_ i28 X G (fun _ _ F=>hr_ F T d_weighted_sum) fun _ _ _ _ _ _=>us3 fun _ _ _=>rfl
 have d_count_begun:Def l.prog w K mg base 3 "count_begun" ["frame","tails_by_part","d","head","end"] az_:=r_ i29 X G (fun _ _ F=>fc_ F T d_part_beginnings d_cut_by_parts d_ways_from_beginnings d_count_spread_within) fun _ _ _ _ _ _=>us5 fun _ _ _ _ _=>rfl
 have d_count_below:Def l.prog w K mg base 10 "count_below" ["frame","tails_by_part","d","n"] bj_:=r_ i30 X G (fun _ _ F=>fb_ F T d_stretches_below d_count_begun) fun _ _ _ _ _ _=>us4 fun _ _ _ _=>rfl
 have d_count_near:Def l.prog w K mg base 6 "count_near" ["frame","d"] aU_:=r_ i31 X G (fun _ _ F=>ge_ F d_need_frame d_need_miss d_ways_of_parts d_count_spread_within) fun _ _ _ _ _ _=>us2 fun _ _=>rfl
 have d_figure_and_rest:Def l.prog w K mg base 4 "figure_and_rest" ["frame","tails_by_part","d","head","k"] ds_:=r_ i32 X G (fun _ _ F=>jy_ F d_count_begun) fun _ _ _ _ _ _=>us5 fun _ _ _ _ _=>rfl
 have d_number_at:Def l.prog w K mg base 11 "number_at" ["frame","tails_by_part","d","k"] cz_:=r_ i33 X G (fun _ _ F=>hu_ F T d_how_many d_count_below d_figure_and_rest d_number_of) fun _ _ _ _ _ _=>us4 fun _ _ _ _=>rfl
 have d_need_place:Def l.prog w K mg base 2 "need_place" ["thing"] bO_:=r_ i34 X G (fun _ _ F=>fZ_ F d_is_whole) fun _ _ _ _ _ _=>us1 fun _=>rfl
 have d_near_by_N:Def l.prog w K mg base 12 "near_by" ["frame","d","k"] da_:=r_ i35 X G (fun _ _ F=>gb_ F d_need_frame d_need_miss d_need_place d_tails_of_parts d_number_at) fun _ _ _ _ _ _=>us3 fun _ _ _=>rfl
 have d_near_by:Def l.prog w K mg base 12 "near_by" ["frame","d","k"] spByV:=r_ i35 X G (fun _ _ F=>(gb_ F d_need_frame d_need_miss d_need_place d_tails_of_parts d_number_at).imp rp_) fun _ _ _ _ _ _=>us3 fun _ _ _=>rfl
 have d_even_by:Def l.prog w K mg base 13 "even_by" ["frame","k"] eJ_:=r_ i36 X G (fun _ _ F=>(jz_ F d_near_by_N).imp nu_) fun _ _ _ _ _ _=>us2 fun _ _=>rfl
 have d_copy_of:Def l.prog w K mg base 1 "copy_of" ["frame"] bk_:=r_ i37 X G (fun _ _ F=>ln_ F T) fun _ _ _ _ _ _=>us1 fun _=>rfl
 have d_with_weight:Def l.prog w K mg base 3 "with_weight" ["frame","place","weight"] fC_:=r_ i38 X G (fun _ _ F=>lf_ F T d_is_between d_copy_of) fun _ _ _ _ _ _=>us3 fun _ _ _=>rfl
 have k_Keeper:CDef l.prog w K mg base 6 "Keeper" C ["self","frame"] (ii_ C):=pQ_ jm0 mkC kC (PySem.W.mg_of X G aC) (fun _ _ F=>mX_ F nS d_need_frame d_copy_of cl) fun _ _ _ _ _ _=>us2 fun _ _=>rfl
 have m_changes:MDef l.prog w K mg base 1 C "changes" ["self"] (cd_ C):=cI_ jm1 (fun _ _ F=>hw_ F T nS cl) fun _ _ _ _ _ _=>us1 fun _=>rfl
 have m_frame:MDef l.prog w K mg base 2 C "frame" ["self"] (db_ C):=cI_ jm2 (fun _ _ F=>lk_ F nS d_copy_of cl) fun _ _ _ _ _ _=>us1 fun _=>rfl
 have m_near:MDef l.prog w K mg base 7 C "near" ["self","d"] (gP_ C):=cI_ jm3 (fun _ _ F=>mW_ F nS d_count_near cl) fun _ _ _ _ _ _=>us2 fun _ _=>rfl
 have m_even:MDef l.prog w K mg base 14 C "even" ["self","k"] (gS_ C):=cI_ jm4 (fun _ _ F=>mY_ F nS d_even_by cl) fun _ _ _ _ _ _=>us2 fun _ _=>rfl
 have m_weigh:MDef l.prog w K mg base 8 C "weigh" ["self","place","weight"] (eC_ C):=cI_ jm5 (fun _ _ F=>gc_ F nS d_with_weight d_count_even cl) fun _ _ _ _ _ _=>us3 fun _ _ _=>rfl
 have m_undo:MDef l.prog w K mg base 8 C "undo" ["self"] (ig_ C):=cI_ jm6 (fun _ _ F=>iC_ F nS d_count_even cl m_changes) fun _ _ _ _ _ _=>us1 fun _=>rfl
 have e_with_weight:Def1 l.prog w K mg base 3 "with_weight" ["frame","place","weight"] (spOr fC_ (eF_ c2 c1)):=pN_ i38 X G (fun _ _ F=>(lf_ F T d_is_between d_copy_of).up.or (mR_ F T d_is_between o2 en.n2 o1 en.n1)) fun _ _ _ _ _ _=>us3 fun _ _ _=>rfl
 have n_undo:MDef1 l.prog w K mg base 8 C "undo" ["self"] (spOr (ig_ C) (eG_ C c1)):=iQ_ jm6 (fun _ _ F=>(iC_ F nS d_count_even cl m_changes).up.or (lj_ F cl m_changes o1 en.n1)) fun _ _ _ _ _ _=>us1 fun _=>rfl
 have n_weigh:MDef1 l.prog w K mg base 8 C "weigh" ["self","place","weight"] (spOr (eC_ C) (dq_ C c2 c1)):=iQ_ jm5 (fun _ _ F=>(gc_ F nS d_with_weight d_count_even cl).up.or (jv_ F cl nS e_with_weight)) fun _ _ _ _ _ _=>us3 fun _ _ _=>rfl
 have d_law_cell:Def l.prog w K mg base 1 "_law_cell" ["script","k"] (ky_ K):=r_ i39 X G (fun _ _ F=>pm_ F T) fun _ _ _ _ _ _=>us2 fun _ _=>rfl
 have d_law_store:Def l.prog w K mg base 1 "_law_store" ["cell"] gO_:=r_ i40 X G (fun _ _ F=>mU_ F) fun _ _ _ _ _ _=>us1 fun _=>rfl
 have d_law_take:Def l.prog w K mg base 1 "_law_take" ["store","many"] bg_:=r_ i41 X G (fun _ _ F=>ph_ F) fun _ _ _ _ _ _=>us2 fun _ _=>rfl
 have d_law_frame:Def l.prog w K mg base 2 "_law_frame" ["store","longest"] gR_:=r_ i42 X G (fun _ _ F=>mZ_ F T d_law_take) fun _ _ _ _ _ _=>us2 fun _ _=>rfl
 have d_law_kind:Def l.prog w K mg base 1 "_law_kind" ["e","due"] (ih_ K (cs [c0,c1,c2,c3,c4,c5,c6,c7,c8,c9])):=r_ i43 X G (fun _ _ F=>pj_ F T en) fun _ _ _ _ _ _=>us2 fun _ _=>rfl
 have d_law_is_from:Def l.prog w K mg base 1 "_law_is_from" ["thing","low","high"] bH_:=r_ i44 X G (fun _ _ F=>ll_ F T) fun _ _ _ _ _ _=>us3 fun _ _ _=>rfl
 have d_law_due:Def l.prog w K mg base 2 "_law_due" ["state","deed"] spDue:=r_ i45 X G (fun _ _ F=>qE_ F T d_law_is_from) fun _ _ _ _ _ _=>us2 fun _ _=>rfl
 have d_law_deed:Def l.prog w K mg base 2 "_law_deed" ["store","state"] kx_:=r_ i46 X G (fun _ _ F=>pl_ F T d_law_take) fun _ _ _ _ _ _=>us2 fun _ _=>rfl
 have d_law_asked:Def l.prog w K mg base 9 "_law_asked" ["keeper","deed","due"] (gT_ C):=r_ i47 X G (fun _ _ F=>nb_ (c:=(cs [c0,c1,c2,c3,c4,c5,c6,c7,c8,c9])) F T nstr (PySem.W.mg_of X G eB) u1 u2 y1 y2 cl d_law_kind n_undo n_weigh) fun _ _ _ _ _ _=>us3 fun _ _ _=>rfl
 have d_law_copy:Def l.prog w K mg base 1 "_law_copy" ["frame"] bk_:=r_ i48 X G (fun _ _ F=>na_ F T) fun _ _ _ _ _ _=>us1 fun _=>rfl
 have d_law_d:Def l.prog w K mg base 2 "_law_d" ["store","frame"] kv_:=r_ i49 X G (fun _ _ F=>pi_ F T d_law_take) fun _ _ _ _ _ _=>us2 fun _ _=>rfl
 have d_law_as_anew:Def l.prog w K mg base 15 "_law_as_anew" ["store","keeper","frame"] (kz_ C):=r_ i50 X G (fun _ _ F=>po_ F T d_law_take d_law_d d_count_near d_count_even d_even_by d_is_even cl m_frame m_near m_even) fun _ _ _ _ _ _=>us3 fun _ _ _=>rfl
 exact qD_ F T nstr d_law_cell d_law_store d_law_take d_law_frame d_law_copy d_law_deed d_law_due d_law_asked d_count_even d_law_as_anew cl m_frame k_Keeper
theorem walk{l:PySem.W.OpenLaw}{q:Program}{loose:List Str}{XP:(Str->Option Value)->Heap->Prop}{YP:World->Heap->Prop}{d:DefRec}{K:Params->PySem.W.Frag}(hn:l.most=some 63)(hdf:d.params.defaults=[])
  (hY:∀(w:World) (h:Heap),YP w h->(K w.params).In h)
  (F:∀(w:World) (mg:Str->Option Value) (fa:Addr) (h:Heap),(K w.params).In h->h.Ns mainGlobals mg->mg d.name=some (.ref fa)->
   ∃fd:FuncData,(∀(s:Shared) (u:Value),BindsTo s fd ⟨[u],[]⟩ [("script",u)])/\∀base:Heap,(K w.params).In base->base.Ns mainGlobals mg->FnOk l.prog w (K w.params) mg base CX0 16 fa fd ["script"] (spLaw (K w.params))) :
  PySem.W.WalkO q loose XP YP l.row.toRowW d [] (fun f vs=>PySem.call f vs) :=
 L2.oG_ (n:=63) (k:=16) (x:="script") (CX:=fun _=>CX0) (sp:=fun w=>spLaw (K w.params)) hn (by decide) hdf ⟨rfl,by decide,by decide,rfl⟩ hY F (fun _ _ a ns hl _ hS=>⟨a,ns,rfl,hS,hl,fun _=>rfl⟩) fun _ _ _ _ _ z=>z
end Hv
open PySem PySem.W PyProof.Rows
namespace PySem.W.Fast
def tw17623117783797474544:=0
def tw10188136063305364260:=0
def tw5052628183409569892:=0
def tw5782313309929774189:=0
def tw2793534776483476635:=0
def tw4487598492157844144:=0
def tw4767902319418313074:=0
def tw10523463968247039473:=0
def tw9855813636396769594:=0
def tw15154990791848009260:=0
def tw3707089000149829012:=0
def tw6105642140155057990:=0
def tw11402357954936548883:=0
def tw17092855926815067086:=0
def tw16172024677055815717:=0
def tw12340726969365121825:=0
def tw11846545665438777552:=0
def tw8328988343769267545:=0
def tw16074701026119253983:=0
def tw9842421794879953077:=0
def tw17330324216360216917:=0
def tw11199231159234159335:=0
def tw11560874018904258873:=0
def tw17135865479430948691:=0
def tw5699902828435817292:=0
def tw218480352047374178:=0
def tw14090798448680598502:=0
def tw9660713397428682804:=0
def tw18256643939465175271:=0
def tw3632238634496448539:=0
def tw2376831363516650775:=0
def tw4839469663744375059:=0
def tw11485941824825336536:=0
def tw2189862558628318536:=0
def tw13732005533702465379:=0
def tw1591390591408979317:=0
def tw16823004527076919927:=0
def tw16487061841380875879:=0
def tw11816307742705764415:=0
def tw8684711639389308017:=0
def tw12520713687761027111:=0
def tw11218811263069456999:=0
def tw3845631139062859258:=0
def tw3793467557853180279:=0
def tw911803977865810138:=0
def tw13609132467647895531:=0
def tw3307394302817126773:=0
def tw4096878326724199730:=0
def tw5656288805687282570:=0
def tw13227954840291396390:=0
def tw1541283397976485067:=0
def tw1541774629310331287:=0
def tw16916701104942369788:=0
def tw11103498281445162184:=0
def tw4425368887035049572:=0
def tw2136990408763401441:=0
def tw8558808340411350844:=0
def tw6885046280399087250:=0
def tw761844297201265049:=0
def tw15697256792746332101:=0
def tw3330522573083772661:=0
def tw7635062597936509862:=0
def tw4846843461595285849:=0
def tw9069503894665450775:=0
def tw9651054214483103386:=0
def tw13037846880743588964:=0
def tw17512434508693030156:=0
def tw6222354086584872305:=0
def tw205114298398889473:=0
def tw8981749600070440334:=0
def tw11658070146058240819:=0
def tw8009414747949481005:=0
def tw7754841505129310881:=0
def tw7448104075107808857:=0
def tw11592725052370404461:=0
def tw974182656754192469:=0
def tw17872316274161200905:=0
def tw12052569580839833655:=0
def tw584001128035353423:=0
def tw8122291209243174137:=0
def tw16560889302927190843:=0
def tw13094605341117223789:=0
def tw7251334368636721460:=0
def tw11506437223416515843:=0
def tw16544666774737598464:=0
def tw2630474992844624524:=0
def tw3683383794425400431:=0
def tw7597738539936120423:=0
def tw1498411825684489457:=0
def tw6260052374898525343:=0
def tw9577228864234208193:=0
def tw3281206829396163916:=0
def tw3790490358898610511:=0
def tw10432966598316579594:=0
def tw3306422504771312551:=0
def tw12826334608989815435:=0
def tw18022356009923409105:=0
def tw4491240571078831462:=0
def tw9564098594050979026:=0
def tw7149936972943826904:=0
def tw8056580857251061390:=0
def tw2468897556280730622:=0
def tw1809629939848677552:=0
def tw9109404310917316525:=0
def tw11360068555581367810:=0
def tw5274781239980174899:=0
def tw9084859791616400655:=0
def tw17906309693912477721:=0
def tw9685680458019945291:=0
def tw3427422770500482577:=0
def tw14204782992898033338:=0
def tw14967399948473666335:=0
def tw16861541004392082666:=0
def tw8014771671026652778:=0
def tw8889358841291307820:=0
def tw2327285586189626878:=0
def tw6699360236736058958:=0
def tw11867078034296481899:=0
def tw13815032179424940303:=0
def tw16316139835561178746:=0
def tw5326810862664678758:=0
def tw12393237729872979073:=0
def tw2148335331854180233:=0
def tw6777159126879310203:=0
def tw12918775835210041410:=0
def tw17985982477661005866:=0
def tw13703779958576744407:=0
def tw6239029615481356765:=0
def tw3903397320113873331:=0
def tw16559515477002700918:=0
def tw1580421369301959779:=0
def tw1841860450771378452:=0
def tw6943485334164323020:=0
def tw2863423892742773380:=0
def tw10252161320547594177:=0
def tw6501432632180323164:=0
def tw16333797124297742598:=0
def tw15809104547582488129:=0
def tw6717959876767425033:=0
def tw5582607613304953281:=0
def tw14037956870567228515:=0
def tw4712232091017255087:=0
def tw15342598368362381499:=0
def tw1608366721858344980:=0
def tw4591421753004245758:=0
def tw11869478901194419266:=0
def tw15757430862101569805:=0
def tw12051592058603084586:=0
def tw14504450779929367421:=0
def tw11992988231299096711:=0
def tw2546298010008102705:=0
def tw15584293174699313362:=0
def tw18073287819354831093:=0
def tw2610976635302540166:=0
def tw6921563595185521466:=0
def tw14738848827027654531:=0
def tw17899373914780437842:=0
def tw9076587809899855701:=0
def tw9853748667390898523:=0
def tw11941331708612722653:=0
def tw8310380245523033236:=0
def tw16979982666041121163:=0
def tw9747899875758372594:=0
def tw10894158526795598954:=0
def tw7865173496934053857:=0
def tw13440419508933836303:=0
def tw6531244945269109834:=0
def tw3137607722569662727:=0
def tw16918095934303190896:=0
def tw17878772500209933692:=0
def tw10823810013104076599:=0
def tw3683657826186774094:=0
def tw15482394309370516818:=0
def tw5755213218086140281:=0
def tw2309093159811813068:=0
def tw11579548551709456103:=0
def tw17112288890675645436:=0
def tw11231939695427540328:=0
def tw13291173618140953915:=0
def tw9007620921326513892:=0
def tw11556156491969851008:=0
def tw1864506415928718546:=0
def tw510606322544280550:=0
def tw11200163943897165666:=0
def tw4228818018584514125:=0
def tw6958633151199671568:=0
def tw13251947151294633477:=0
def tw16725108316041617021:=0
def tw6650912791660344069:=0
def tw2220361207006240991:=0
def tw7753204940093418417:=0
def tw4532715704315006899:=0
def tw17890822301526895269:=0
def tw1211057643102552822:=0
def tw17679334476532591364:=0
def tw4200744595664043685:=0
def tw18209317588398253062:=0
def tw3969346067960961382:=0
def tw4841647777411421350:=0
def tw3935133024716677256:=0
def tw2480326006810693134:=0
def tw14125099077051447299:=0
def tw6028348832207630428:=0
def tw5767027503858679674:=0
def tw9773881665212272787:=0
def tw13451489539469319579:=0
def tw18083223521423941405:=0
def tw11795398388006926191:=0
def tw12684059463729981139:=0
def tw11060135028301343300:=0
def tw9746092540306616205:=0
def tw13397689607204738298:=0
def tw17273554194804768212:=0
def tw11947512920418831772:=0
def tw8357439069028863429:=0
def tw6607300738075573970:=0
def tw7636893177490723623:=0
def tw14616075110054913291:=0
def tw15605438552630276969:=0
def tw14225586097946972312:=0
def tw18112863578894711564:=0
def tw13892333932171071564:=0
def tw4714070896273497392:=0
def tw11998280180160963830:=0
def tw6059542025370394330:=0
def tw3125529435630936840:=0
def tw12475011172095563040:=0
def tw7409907755833901287:=0
def tw7252785121647530679:=0
def tw1828147955815057615:=0
def tw15453185797760915468:=0
def tw13685834876694771287:=0
def tw10866325804688226183:=0
def tw16137585990083088333:=0
def tw5494006829857667177:=0
def tw8750295662228993501:=0
def tw16157364930663605847:=0
def tw18102114994124625865:=0
def tw5955489688940650552:=0
def tw9486623317320926919:=0
def tw14767221248039289598:=0
def tw15556042710645683389:=0
def tw539387157969086550:=0
def tw8016164767333216155:=0
def tw2453453244254292287:=0
def tw5590716029298092727:=0
def tw12164380057109706923:=0
def tw12507210032832095741:=0
def tw2869441505791185679:=0
def tw9369183996313495340:=0
def tw2300722534560164575:=0
def tw12336425169722498944:=0
def tw14229342687566767919:=0
def tw6428316720029677338:=0
def tw6112356250815279787:=0
def tw8487143375818877269:=0
def tw4161843446362535884:=0
def tw13730791985206952779:=0
def tw11673367601390870199:=0
def tw513813093828030194:=0
def tw800983604314101614:=0
def tw15622087552490032736:=0
def tw3646575599411838116:=0
def tw3915295667933122956:=0
def tw6271831132615807268:=0
def tw14567205120321356120:=0
def tw7892871213418915110:=0
def tw17240851089781381165:=0
def tw4096692214562778386:=0
def tw12273810910610687652:=0
def tw1457394222336538353:=0
def tw8945467007601866369:=0
def tw1564663543110633307:=0
def tw5006554544593199902:=0
def tw7589448503970007027:=0
def tw6357012038679246339:=0
def tw16914532652756762083:=0
def tw4855961365978167123:=0
def tw16688393993020817810:=0
def tw9639031087290632630:=0
def tw14980497227414874342:=0
def tw8105036381105455009:=0
def tw5673909935297818537:=0
def tw2670644888438560407:=0
def tw3604538509587582513:=0
def tw1479504385470470602:=0
def tw11563814664329936358:=0
def tw5194177957224492727:=0
def tw18322305365036055903:=0
def tw11099264423972340878:=0
def tw1832698618760881506:=0
def tw14492854679643110235:=0
def tw3648155951737197837:=0
def tw3549630725557002566:=0
def tw643708777791530963:=0
def tw14763391886463266772:=0
def tw6890359607479664634:=0
def tw3467780633379207408:=0
def tw18068978976412601620:=0
def tw367464171260470602:=0
def tw3751347713195045375:=0
def tw7241998099094247762:=0
def tw17132341070977991936:=0
def tw2685880134294078823:=0
def tw2325336323758713896:=0
def tw7594067317087561468:=0
def tw5128890431275761725:=0
def tw18060562521809398338:=0
def tw8136611462604808493:=0
def tw18248351368290740357:=0
def tw11680947780934903368:=0
def tw219943728747137310:=0
def tw14956039690073111498:=0
def tw1449907126911640461:=0
def tw15732379477085591264:=0
def tw4399968290817993566:=0
def tw1110514456691758404:=0
def tw13405279915406792795:=0
def tw35924667401399683:=0
def tw9759827714144952325:=0
def tw6237174784056340939:=0
def tw13873835809921440512:=0
def tw11790484659200205604:=0
def tw11528127658020602982:=0
def tw12297294883248721693:=0
def tw11672851531813093056:=0
def tw981779216342668999:=0
def tw16775257055773783212:=0
def tw14653443585278505912:=0
def tw2244766383117217523:=0
def tw11118835479387942270:=0
def tw5333684905425144882:=0
def tw13313352725584424572:=0
def tw17219231513213941640:=0
def tw16348179299129499022:=0
def tw1191785215189254081:=0
def tw2279831448584856656:=0
def tw15627901349703562856:=0
def tw9002582099387055512:=0
def tw12047896969112307656:=0
def tw3403823330615234550:=0
def tw7712399711973180171:=0
def tw17349288511894246718:=0
def tw13852485815752223605:=0
def tw2658169804434498072:=0
def tw8466736761517878222:=0
def tw16897534007693161297:=0
def tw5783489797595244922:=0
def tw5109570344544589:=0
def tw202015227901873820:=0
def tw2159150271280190176:=0
def tw11768074970059525680:=0
def tw9672103437087254573:=0
def tw10085970430236465313:=0
def tw15523259440285347242:=0
def tw15910356498376160242:=0
def tw7940261235069729162:=0
def tw8877908972000898960:=0
def tw16387801290226978468:=0
def tw2386049653951765753:=0
def tw2669885434333509099:=0
def tw643244289513347088:=0
def tw4145569091739096973:=0
def tw9920112166988051793:=0
def tw1985437228164922447:=0
def tw3263350837366704645:=0
def tw14136407951492599911:=0
def tw15187947103492513715:=0
def tw7602258322837697541:=0
def tw9308514853855111185:=0
def tw9278502131827021813:=0
def tw2136207389442772080:=0
def tw5211296730738552060:=0
def tw1541404868595325258:=0
def tw8680707747317629879:=0
def tw3026245358211880353:=0
def tw10252295375795892638:=0
def tw850973368717842972:=0
def tw5186346102576674161:=0
def tw9050270135185654238:=0
def tw8391145301099329955:=0
def tw3624869458763042707:=0
def tw14058742556689219674:=0
def tw1538768704520973068:=0
def tw6512980559573647806:=0
def tw14398290135327356193:=0
def tw14144967763689859655:=0
def tw1583841273822936681:=0
def tw2579093008885685915:=0
def tw1908996247655791597:=0
def tw11248925713827261172:=0
def tw14194470872974427621:=0
def tw4889250361672625439:=0
def tw2519431749419746245:=0
def tw1521292449503575249:=0
def tw18254073590360080482:=0
def tw10179761667995105670:=0
def tw16949880580620410277:=0
def tw12681523491579900767:=0
def tw12059616979000472917:=0
def tw5998098225730909173:=0
def tw3818733019883645758:=0
def tw10494738604097034704:=0
def tw2305229914573182148:=0
def tw14093462536766844554:=0
def tw11843362127088959043:=0
def tw16401199001602367127:=0
def tw10343816260502568663:=0
def tw4190022933651832632:=0
def tw12119371613271916689:=0
def tw6051309188893393179:=0
def tw10916218674077589871:=0
def tw3576490515372010071:=0
def tw6586590736249735929:=0
def tw8751441293197826303:=0
def tw6678254659673824650:=0
def tw4093038123134627331:=0
def tw889833331049999790:=0
def tw11605283989521188458:=0
def tw14998136203988863884:=0
def tw14833975376492717080:=0
def tw11473012531514522589:=0
def tw15061246443314516341:=0
def tw7350100754502424177:=0
def tw6967162478397481457:=0
def tw3553665681382275394:=0
def tw15080363134185402645:=0
def tw14512982439668287189:=0
def tw498076120024694842:=0
def tw2019315325574820478:=0
def tw4097962055336362091:=0
def tw16712681221724498190:=0
def tw6461533030123474955:=0
def tw6761376472110582178:=0
def tw14955642375683053290:=0
def tw6664649793466508955:=0
def tw2406264388542644468:=0
def tw10787801495850698818:=0
def tw4675417534971451482:=0
def tw7715215453343275170:=0
def tw13138830756956807081:=0
def tw5602870195017475330:=0
def tw9192382966588264248:=0
def tw18060296712868385326:=0
def tw1814674375372651136:=0
def tw5167255910263352500:=0
def tw2227777310881309901:=0
def tw15403951118614140743:=0
def tw17380250484467172624:=0
def tw134060817874423683:=0
def tw1720537877957823071:=0
def tw15723279365340975924:=0
def tw1143973137274329347:=0
def tw14684705690353479693:=0
def tw592711051964100027:=0
def tw200094740316646727:=0
def tw10411913659086427329:=0
def tw4483743753530230668:=0
def tw15554645047410247202:=0
def tw6708201860595349201:=0
def tw10216758109342622298:=0
def tw6497785661065472148:=0
def tw13702819055080873159:=0
def tw9909333930497207304:=0
def tw15891563760358415291:=0
def tw8831700404176361266:=0
def tw4319013112547688342:=0
def tw11576595606472545681:=0
def tw10566017635751713001:=0
def tw2780827342069471514:=0
def tw3348663768625081590:=0
def tw14716504162134728220:=0
def tw1787810313761961388:=0
def tw14002086870185539192:=0
def tw16882384506984308613:=0
def tw3209070014774103208:=0
def tw15241855884128471190:=0
def tw9080668630285716135:=0
def tw4340523410418701512:=0
def tw15031418877365928971:=0
def tw4469070603964242010:=0
def tw14850677355157278742:=0
def tw16399719013271936250:=0
def tw776781131157914452:=0
def tw8067432048580653234:=0
def tw1254220037926720761:=0
def tw8628168486000720125:=0
def tw11984057589555845946:=0
def tw17706054160133875700:=0
def tw13813340374365739229:=0
def tw3131655130276688104:=0
def tw16216380742120289051:=0
def tw12811733332783759161:=0
def tw16999509723976687336:=0
def tw15499378267779226790:=0
def tw12564927189837635200:=0
def tw16736019918685869316:=0
def tw16064263369563187295:=0
def tw3956323221684669450:=0
def tw13982406933231761707:=0
def tw9922072733781813587:=0
def tw16267960101044197145:=0
def tw4677923966328391865:=0
def tw13152601227549699583:=0
def tw14920221714417163436:=0
def tw602372686323738253:=0
def tw17387858550216587452:=0
def tw9980912390996422575:=0
def tw11384588405641416678:=0
def tw18010048067906736432:=0
def tw12145728945127550881:=0
def tw244227856970962730:=0
def tw6383934935399973555:=0
def tw7257130231078125183:=0
def tw16736382405323814588:=0
def tw16143290056857024035:=0
def tw17205543055649013983:=0
def tw16178474500195751733:=0
def tw11384589445634610567:=0
def tw9091994103867687738:=0
def tw5255121834185730825:=0
def tw7091323707982804280:=0
def tw10478658568538601254:=0
def tw1620126518986890016:=0
def tw9235947997295559767:=0
def tw16709617186190702450:=0
def tw6232609086351821163:=0
def tw11979018683406661612:=0
def tw9935759206244753570:=0
def tw9771074139730221864:=0
def tw1699413426641830684:=0
def tw6045597591099154123:=0
def tw487475774234936038:=0
def tw5814790629580257525:=0
def tw2236968996977540240:=0
def tw15667408503607885106:=0
def tw16689632883881744474:=0
def tw11075233484014299724:=0
def tw3363369290645498684:=0
def tw6757929284080489:=0
def tw7870802742833210711:=0
end PySem.W.Fast
set_option maxRecDepth 100000 in
set_option maxHeartbeats 0 in
theorem PySem.Challenge.cw_likehalves_k36_whole_as_anew_holds : PySem.Challenge.rw_likehalves_k36_whole_as_anew.Holds := by
 w_on;o_law;k_head;(case hw=>w_witness2)
 k_fill
 refine Hv.walk (l := PySem.Challenge.rw_likehalves_k36_whole_as_anew) rfl rfl (fun w h Y => PySem.W.kIn_of Y) ?F
 case F =>
  intro w mg fa h KX G hmg
  refine' Hv.rq_ KX G hmg ?t ?i0 ?i1 ?i2 ?i3 ?i4 ?i5 ?i6 ?i7 ?i8 ?i9 ?i10 ?i11 ?i12 ?i13 ?i14 ?i15 ?i16 ?i17 ?i18 ?i19 ?i20 ?i21 ?i22 ?i23 ?i24 ?i25 ?i26 ?i27 ?i28 ?i29 ?i30 ?i31 ?i32 ?i33 ?i34 ?i35 ?i36 ?i37 ?i38 ?i39 ?i40 ?i41 ?i42 ?i43 ?i44 ?i45 ?i46 ?i47 ?i48 ?i49 ?i50 ?aC ?pgC ?hdC ?poC ?saC ?mkC ?kC ?nS ?jm0 ?jm1 ?jm2 ?jm3 ?jm4 ?jm5 ?jm6 ?eB ?e0 ?e1 ?e2 ?e3 ?e4 ?e5 ?e6 ?e7 ?e8 ?e9 ?tB ?mB ?q1 ?m1 ?l1 ?v1 ?k1_0 ?k1_1 ?k1_2 ?k1_3 ?k1_4 ?k1_5 ?k1_6 ?k1_7 ?k1_8 ?k1_9 ?q2 ?m2 ?l2 ?v2 ?k2_0 ?k2_1 ?k2_2 ?k2_3 ?k2_4 ?k2_5 ?k2_6 ?k2_7 ?k2_8 ?k2_9 ?ndict ?nsorted ?nstr ?nValueError ?jl
  case aC=>k_is
  case pgC=>k_is
  case hdC=>k_is
  case poC=>k_is
  case saC=>k_is
  case mkC=>k_is
  case kC=>k_is
  case nS=>k_is
  case jm0 =>
   refine' Hv.dE_ ?a ?i ?l ?c ?k
   (case a=>k_is);(case i=>k_is);(case l=>k_is);(case c=>k_is);(case k=>k_is)
  case jm1 =>
   refine' Hv.dE_ ?a ?i ?l ?c ?k
   (case a=>k_is);(case i=>k_is);(case l=>k_is);(case c=>k_is);(case k=>k_is)
  case jm2 =>
   refine' Hv.dE_ ?a ?i ?l ?c ?k
   (case a=>k_is);(case i=>k_is);(case l=>k_is);(case c=>k_is);(case k=>k_is)
  case jm3 =>
   refine' Hv.dE_ ?a ?i ?l ?c ?k
   (case a=>k_is);(case i=>k_is);(case l=>k_is);(case c=>k_is);(case k=>k_is)
  case jm4 =>
   refine' Hv.dE_ ?a ?i ?l ?c ?k
   (case a=>k_is);(case i=>k_is);(case l=>k_is);(case c=>k_is);(case k=>k_is)
  case jm5 =>
   refine' Hv.dE_ ?a ?i ?l ?c ?k
   (case a=>k_is);(case i=>k_is);(case l=>k_is);(case c=>k_is);(case k=>k_is)
  case jm6 =>
   refine' Hv.dE_ ?a ?i ?l ?c ?k
   (case a=>k_is);(case i=>k_is);(case l=>k_is);(case c=>k_is);(case k=>k_is)
  case eB=>k_is
  case e0=>k_is
  case e1=>k_is
  case e2=>k_is
  case e3=>k_is
  case e4=>k_is
  case e5=>k_is
  case e6=>k_is
  case e7=>k_is
  case e8=>k_is
  case e9=>k_is
  case tB=>k_is
  case mB=>k_is
  case q1=>kernel_rfl
  case m1=>k_is
  case l1=>exact⟨by k_is,by k_is,by kernel_rfl,by k_is,by k_is⟩
  case v1=>kernel_rfl
  case k1_0=>kernel_rfl
  case k1_1=>kernel_rfl
  case k1_2=>kernel_rfl
  case k1_3=>kernel_rfl
  case k1_4=>kernel_rfl
  case k1_5=>kernel_rfl
  case k1_6=>kernel_rfl
  case k1_7=>kernel_rfl
  case k1_8=>kernel_rfl
  case k1_9=>kernel_rfl
  case q2=>kernel_rfl
  case m2=>k_is
  case l2=>exact⟨by k_is,by k_is,by kernel_rfl,by k_is,by k_is⟩
  case v2=>kernel_rfl
  case k2_0=>kernel_rfl
  case k2_1=>kernel_rfl
  case k2_2=>kernel_rfl
  case k2_3=>kernel_rfl
  case k2_4=>kernel_rfl
  case k2_5=>kernel_rfl
  case k2_6=>kernel_rfl
  case k2_7=>kernel_rfl
  case k2_8=>kernel_rfl
  case k2_9=>kernel_rfl
  case ndict=>k_is
  case nsorted=>k_is
  case nstr=>k_is
  case nValueError=>k_is
  case t=>refine⟨?_,?_,?_,?_,?_,?_,?_,?_,?_,?_,?_,?_,?_,?_⟩ <;> k_is
  all_goals
   refine' Hv.rx_ ?a ?l ?c ?k
   (case a=>k_is);(case l=>k_is);(case c=>k_is);(case k=>k_is)
#print axioms PySem.Challenge.cw_likehalves_k36_whole_as_anew_holds
