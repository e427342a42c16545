import PyProof.Rows.All
import Wide.All
import OpenK.AllK
import Wide.FinOn
import Lean
import PyProof.EqAt
import PyProof.EqKinds
import PyProof.TupleCall
import KE.KIsAll
import KE.KItem
import KE.KxBytes
import KE.KRevIter
import KE.KDictOf
import KE.KTurnsDict
import KE.KPairComp
import PyProof.Rows.SortShell
import KE.KDictList
import PyProof.AttrMissSeq
import PyProof.DictUpdate
import PyProof.WalksS
import PyProof.ListRange
import KE.KEqDict
import PyProof.SumWalkG
import PyProof.LongRange
import PyProof.ReprRoads
import PyProof.ReprLen
import PyProof.StationsW
import PyProof.Rows.TopTwo
import OpenK.KOwn
import PyProof.RulesDel
import PyProof.Rows.CatchOwn
import PyProof.RulesAs
import PyProof.ExcArgs
import PySem.Challenge.RW_likehalves_k15_places_of_near_ones
noncomputable section
set_option compiler.extract_closed false
set_option genSizeOf false
set_option Elab.async false
set_option linter.all false
set_option maxRecDepth 100000
namespace L2
open PySem PySem.Spec PyProof.Rows
abbrev Key:=Sum Int Str
def keyIs:Key->Value->Bool
 | .inl k,v=>Value.isInt k v
 | .inr x,v=>Value.isStrOf x v
def keyH(w:World):Key->Int
 | .inl k=>hashInt k
 | .inr x=>hashStr w x
theorem E_:∀ {k:Key} {v:Value},keyIs k v=true->(∃i t,k=Sum.inl i/\v=Value.int i t)\/(∃x t,k=Sum.inr x/\v=Value.str x t)
 | .inl i,v,h=>by
  obtain⟨t,e⟩:=Value.isInt_shape (k:=i) (v:=v) h
  exact .inl ⟨i,t,rfl,e⟩
 | .inr x,v,h=>by
  obtain⟨t,e⟩:=Value.isStrOf_shape (x:=x) (v:=v) h
  exact .inr ⟨x,t,rfl,e⟩
theorem kr_(i:Int)(t:Tok):keyIs (.inl i) (.int i t)=true:=by simp[keyIs,Value.isInt]
theorem kq_(x:Str)(t:Tok):keyIs (.inr x) (.str x t)=true:=by simp[keyIs,Value.isStrOf]
theorem pi_(a b:Int):decide ((Sum.inl a:Key)=Sum.inl b)=(a==b):=by
 by_cases e:a=b
 ·subst e;simp
 ·have h:¬ (Sum.inl a:Key)=Sum.inl b:=fun q=>e (Sum.inl.inj q)
  rw[decide_eq_false h]
  exact(beq_eq_false_iff_ne.mpr e).symm
theorem pf_(a b:Str):decide ((Sum.inr a:Key)=Sum.inr b)=decide (a=b):=by
 by_cases e:a=b
 ·subst e;simp
 ·have h:¬ (Sum.inr a:Key)=Sum.inr b:=fun q=>e (Sum.inr.inj q)
  rw[decide_eq_false h,decide_eq_false e]
theorem ph_(a:Int)(b:Str):decide ((Sum.inl a:Key)=Sum.inr b)=false:=decide_eq_false (fun q=>nomatch q)
theorem pg_(a:Str)(b:Int):decide ((Sum.inr a:Key)=Sum.inl b)=false:=decide_eq_false (fun q=>nomatch q)
def A_(prog:Program)(w:World):PySem.KeyKind prog w Key where
 is:=keyIs
 hash:=keyH w
 inj:=fun v a b ha hb=>by
  rcases E_ ha with⟨i,t,rfl,rfl⟩ | ⟨x,t,rfl,rfl⟩
  ·rcases E_ hb with⟨j,u,rfl,e⟩ | ⟨y,u,rfl,e⟩
   ·injection e with e1 _;rw[e1]
   ·exact nomatch e
  ·rcases E_ hb with⟨j,u,rfl,e⟩ | ⟨y,u,rfl,e⟩
   ·exact nomatch e
   ·injection e with e1 _;rw[e1]
 byValue:=fun k v h=>by
  rcases E_ h with⟨i,t,rfl,rfl⟩ | ⟨x,t,rfl,rfl⟩ <;> rfl
 pyHash:=fun hv h=>by
  rcases E_ hv with⟨i,t,rfl,rfl⟩ | ⟨x,t,rfl,rfl⟩
  ·exact wpAny_pyHash_int h
  ·exact wpAny_pyHash_str h
 eqBool:=fun hu hv h=>by
  rcases E_ hu with⟨i,t,rfl,rfl⟩ | ⟨x,t,rfl,rfl⟩
  ·rcases E_ hv with⟨j,u,rfl,rfl⟩ | ⟨y,u,rfl,rfl⟩
   ·rw[pi_] at h;exact wpAny_eqBool_int h
   ·rw[ph_] at h;exact SeqAt.EqAt.int_str i t y u _ _ _ _ h
  ·rcases E_ hv with⟨j,u,rfl,rfl⟩ | ⟨y,u,rfl,rfl⟩
   ·rw[pg_] at h;exact SeqAt.EqAt.str_int x t j u _ _ _ _ h
   ·rw[pf_] at h;exact wpAny_eqBool_str h
 «strs»:=fun k x t v h=>by
  rcases E_ h with⟨i,u,rfl,e⟩ | ⟨y,u,rfl,e⟩
  ·exact nomatch e
  ·injection e with e1 _
   subst e1
   cases v <;> rfl
theorem gO_(prog:Program)(w:World)(i:Int)(t:Tok):(A_ prog w).is (.inl i) (.int i t)=true:=kr_ i t
theorem gN_(prog:Program)(w:World)(x:Str)(t:Tok):(A_ prog w).is (.inr x) (.str x t)=true:=kq_ x t
inductive V where
 | non | bl (b:Bool) | int (i:Int) | str (x:Str) | byt (b:Array UInt8) | flt (b:UInt64) | ref (a:Addr) | ty (n:String)
 deriving DecidableEq
def RelV:V->Value->Prop
 | .non,u=>u=Value.none
 | .bl b,u=>u=Value.bool b
 | .int i,u=>∃t,u=Value.int i t
 | .str x,u=>∃t,u=Value.str x t
 | .byt b,u=>∃t,u=Value.bytes b t
 | .flt b,u=>∃t,u=Value.float b t
 | .ref a,u=>u=Value.ref a
 | .ty n,u=>u=Value.type n
abbrev Vals:List V->List Value->Prop:=Paired RelV
theorem Vals.length{xs:List V}{us:List Value}(r:Vals xs us):xs.length=us.length:=Paired.length r
theorem Vals.get:∀ {xs:List V} {us:List Value} {i:Nat} {x:V},Vals xs us->xs[i]?=some x->∃u,us[i]?=some u/\RelV x u
 | _,_,_,_,.nil,e=>by simp at e
 | _,_,0,_,.cons r _,e=>by simp at e;subst e;exact⟨_,rfl,r⟩
 | _,_,i+1,x,.cons _ t,e=>by
  obtain⟨u,h1,h2⟩:=Vals.get (i:=i) (x:=x) t (by simpa using e)
  exact⟨u,by simpa using h1,h2⟩
theorem Vals.set{x:V}{u:Value}(r:RelV x u):∀ {xs:List V} {us:List Value} (i:Nat),Vals xs us->Vals (xs.set i x) (us.set i u)
 | _,_,_,.nil=>.nil
 | _,_,0,.cons _ t=>.cons r t
 | _,_,i+1,.cons q t=>.cons q (Vals.set r i t)
theorem Vals.append{xs ys:List V}{us ws:List Value}(a:Vals xs us)(b:Vals ys ws):Vals (xs++ys) (us++ws):=by
 induction a with
 | nil=>exact b
 | cons r _ ih=>exact .cons r ih
theorem Vals.take:∀ {xs:List V} {us:List Value} (n:Nat),Vals xs us->Vals (xs.take n) (us.take n)
 | _,_,0,_=>.nil
 | _,_,_+1,.nil=>.nil
 | _,_,n+1,.cons r t=>.cons r (Vals.take n t)
theorem Vals.drop:∀ {xs:List V} {us:List Value} (n:Nat),Vals xs us->Vals (xs.drop n) (us.drop n)
 | _,_,0,r=>r
 | _,_,_+1,.nil=>.nil
 | _,_,n+1,.cons _ t=>Vals.drop n t
theorem Vals.none_of:∀ {xs:List V} {us:List Value} {i:Nat},Vals xs us->xs[i]?=none->us[i]?=none:=fun {xs us i} r e=>by
 have h1:=r.length
 have h2:xs.length<=i:=List.getElem?_eq_none_iff.mp e
 exact List.getElem?_eq_none_iff.mpr (by omega)
def RelO:Option V->Option Value->Prop
 | some v,some u=>RelV v u
 | none,none=>True
 | _,_=>False
def KV{κ:Type}:List (κ×V)->List (κ×Value)->Prop:=Paired fun(p:κ×V) (q:κ×Value)=>p.1=q.1/\RelV p.2 q.2
def kV:Key->V
 | .inl i=>.int i
 | .inr x=>.str x
inductive HO where
 | lst (xs:List V)
 | tup (xs:List V)
 | dK (kvs:List (Key×V)) | dT (kvs:List (List Key×V))
 | set (S:Int->Bool) (n:Nat)
 | ins (C dx:Addr) (fs:List (Str×V))
 | own (x:Addr)
 | xd (fs:List (Str×V))
 | met (f x:Addr)
 | rng (lo hi:Int)
 | frz (o:Obj) (u:HO)
 | tbl (ps:Array Value)
 | ext (φ:Heap->Prop)
abbrev Hp:=Addr->Option HO
def upd(H:Hp)(a:Addr)(o:HO):Hp:=fun b=>if b=a then some o else H b
theorem c_{H:Hp}{a:Addr}{o:HO}:upd H a o a=some o:=by unfold upd;rw[if_pos rfl]
theorem l_{H:Hp}{a b:Addr}{o:HO}(h:b≠a):upd H a o b=H b:=by unfold upd;rw[if_neg h]
theorem pb_{H:Hp}{a b:Addr}{o u:HO}(h:H a=some o)(h':H b=some u)(d:o≠u):a≠b:=by
 intro e;subst e;rw[h] at h';exact d (Option.some.inj h')
theorem k_{H:Hp}{a b:Addr}{o:HO}(h:H a=some o)(h':H b=none):a≠b:=by
 intro e;subst e;rw[h] at h';cases h'
section
variable(P:Program)(w:World)
def ObjOk(H:Hp)(h:Heap)(a:Addr):HO->Prop
 | .lst xs=>xs.length<=sizeLine/\∃(its:List Value) (n:Nat),Vals xs its/\h.get? a=some {cls:=.type "list",data:=.seq its.toArray n}
 | .tup xs=>xs.length<=sizeLine/\∃its:List Value,Vals xs its/\IsTup h a its.toArray
 | .dK kvs=>kvs.length<=sizeLine/\(a==sysModules)=false/\∃vs,KV kvs vs/\h.DictOf (A_ P w) a vs
 | .dT kvs=>kvs.length<=sizeLine/\(a==sysModules)=false/\∃xs:List (List Key×Addr×Value),
   Paired (fun(p:List Key×V) (q:List Key×Addr×Value)=>p.1=q.1/\H q.2.1=some (.tup (p.1.map kV))/\RelV p.2 q.2.2) kvs xs/\
   ∃o es ep,h.get? a=some o/\o.ExactDict/\o.data=.dict es ep/\es.toList=xs.map (entryOfKey (tupleKind (A_ P w)))/\(xs.map (·.1)).Nodup
 | .set S n=>h.SetOf (intKind P w) a S n
 | .ins C dx fs=>H dx=some (.own a)/\fs.length<=1000/\dx≠a/\h.get? a=some (PySem.W.instObj C dx)/\
   ∃mA,h.Ns1 dx mA/\(∀f,RelO (fs.lookup f) (mA f))/\PySem.Within mA (fs.map (·.1))
 | .own _=>∃o,h.get? a=some o
 | .xd fs=>∃mA,h.Ns1 a mA/\∀f,RelO (fs.lookup f) (mA f)
 | .rng lo hi=>∃t u v,h.get? a=some {cls:=.type "range",data:=.fields #[.int lo t,.int hi u,.int 1 v]}
 | .frz o u=>h.get? a=some o/\ObjOk H h a u
 | .tbl ps=>h.get? a=some {cls:=.none,data:=.fields ps}
 | .met f x=>h.get? a=some (PySem.W.methodObj (.ref f) (.ref x))
 | .ext φ=>φ h/\(∃o,h.get? a=some o)/\∀h1 h2:Heap,φ h1->(∀o,h1.get? a=some o->h2.get? a=some o)->φ h2
def HOk(H:Hp)(h:Heap):Prop:=∀a o,H a=some o->ObjOk P w H h a o
end
section
variable{P:Program}{w:World}{H H':Hp}{h h':Heap}{a:Addr}{o:HO}
theorem ObjOk.lt(x:ObjOk P w H h a o):a<h.objs.size:=by
 cases o with
 | lst xs=>obtain⟨_,_,_,_,e⟩:=x;exact Heap.lt_size e
 | tup xs=>obtain⟨_,_,_,p⟩:=x;exact p.lt
 | dK kvs=>obtain⟨_,_,_,_,o,_,_,e,_⟩:=x;exact Heap.lt_size e
 | dT kvs=>obtain⟨_,_,_,_,o,_,_,e,_⟩:=x;exact Heap.lt_size e
 | set S n=>obtain⟨o,_,_,_,e,_⟩:=x;exact Heap.lt_size e
 | ins C dx fs=>obtain⟨_,_,_,e,_⟩:=x;exact Heap.lt_size e
 | own y=>obtain⟨_,e⟩:=x;exact Heap.lt_size e
 | xd fs=>obtain⟨_,⟨_,_,_,e,_⟩,_⟩:=x;exact Heap.lt_size e
 | rng lo hi=>obtain⟨_,_,_,e⟩:=x;exact Heap.lt_size e
 | frz ob u=>obtain⟨e,_⟩:=x;exact Heap.lt_size e
 | tbl ps=>exact Heap.lt_size (show h.get? a=some _ from x)
 | met f y=>exact Heap.lt_size (show h.get? a=some _ from x)
 | ext φ=>obtain⟨_,⟨_,e⟩,_⟩:=x;exact Heap.lt_size e
theorem Paired.mapP{α β:Type}{F G:α->β->Prop}{l₁:List α}{l₂:List β}(h:Paired F l₁ l₂)(f:∀a b,F a b->G a b):Paired G l₁ l₂:=by
 induction h with
 | nil=>exact .nil
 | cons r _ ih=>exact .cons (f _ _ r) ih
theorem ObjOk.stay(x:ObjOk P w H h a o)(k:∀b u,(b=a\/H b=some (.own a))->h.get? b=some u->h'.get? b=some u)
  (ho:∀b,H b=some (.own a)->H' b=some (.own a)) (ht:∀b xs,H b=some (.tup xs)->H' b=some (.tup xs)):ObjOk P w H' h' a o:=by
 induction o with
 | lst xs=>obtain⟨z,its,n,r,e⟩:=x;exact⟨z,its,n,r,k _ _ (.inl rfl) e⟩
 | tup xs=>obtain⟨z,its,r,ob,e,c⟩:=x;exact⟨z,its,r,ob,k _ _ (.inl rfl) e,c⟩
 | dK kvs=>obtain⟨z,y,vs,r,ob,es,ep,e,c⟩:=x;exact⟨z,y,vs,r,ob,es,ep,k _ _ (.inl rfl) e,c⟩
 | dT kvs =>
  obtain⟨z,y,xs,r,ob,es,ep,e,c⟩:=x
  exact⟨z,y,xs,Paired.mapP r fun p q z=>⟨z.1,ht _ _ z.2.1,z.2.2⟩,ob,es,ep,k _ _ (.inl rfl) e,c⟩
 | set S n=>obtain⟨ob,es,ep,t,e,c⟩:=x;exact⟨ob,es,ep,t,k _ _ (.inl rfl) e,c⟩
 | ins C dx fs =>
  obtain⟨d,z,ne,e,mA,⟨od,es,ep,e2,c⟩,r⟩:=x
  exact⟨ho _ d,z,ne,k _ _ (.inl rfl) e,mA,⟨od,es,ep,k _ _ (.inr d) e2,c⟩,r⟩
 | own y=>obtain⟨ob,e⟩:=x;exact⟨ob,k _ _ (.inl rfl) e⟩
 | xd fs=>obtain⟨mA,⟨od,es,ep,e,c⟩,r⟩:=x;exact⟨mA,⟨od,es,ep,k _ _ (.inl rfl) e,c⟩,r⟩
 | rng lo hi=>obtain⟨t,u,v,e⟩:=x;exact⟨t,u,v,k _ _ (.inl rfl) e⟩
 | frz ob u ih=>obtain⟨e,q⟩:=x;exact⟨k _ _ (.inl rfl) e,ih q⟩
 | tbl ps =>
  have e:h.get? a=some {cls:=.none,data:=.fields ps}:=x
  show h'.get? a=some {cls:=.none,data:=.fields ps}
  exact k a _ (.inl rfl) e
 | met f y =>
  have e:h.get? a=some (PySem.W.methodObj (.ref f) (.ref y)):=x
  show h'.get? a=some (PySem.W.methodObj (.ref f) (.ref y))
  exact k a _ (.inl rfl) e
 | ext φ=>obtain⟨p,⟨o,e⟩,st⟩:=x;exact⟨st _ _ p fun o q=>k _ _ (.inl rfl) q,⟨o,k _ _ (.inl rfl) e⟩,st⟩
theorem HOk.lt(x:HOk P w H h)(e:H a=some o):a<h.objs.size:=(x a o e).lt
theorem HOk.fresh(x:HOk P w H h)(e:h.objs.size<=a):H a=none:=by
 cases q:H a with
 | none=>rfl
 | some u=>exact absurd (Nat.lt_of_lt_of_le (x.lt q) e) (Nat.lt_irrefl _)
theorem HOk.kept(x:HOk P w H h)(k:∀b u,h.get? b=some u->h'.get? b=some u):HOk P w H h':=fun a o e =>
 (x a o e).stay (fun b u _ q=>k b u q) (fun _ q=>q) fun _ _ q=>q
theorem HOk.laid(x:HOk P w H h)(k:∀b u,h.get? b=some u->h'.get? b=some u)(hp:h.objs.size<=a)(new:ObjOk P w (upd H a o) h' a o):HOk P w (upd H a o) h':=fun b u e=>by
 have hn:=x.fresh hp
 by_cases hb:b=a
 ·subst hb;rw[c_] at e;cases e;exact new
 ·rw[l_ hb] at e
  exact(x b u e).stay (fun c v _ q=>k c v q) (fun c q=>by rw[l_ (k_ q hn)];exact q) fun c xs q=>by rw[l_ (k_ q hn)];exact q
end
def Rd(H:Hp)(a:Addr)(u:HO):Prop:=H a=some u\/∃o,H a=some (.frz o u)
theorem Rd.ok{P:Program}{w:World}{H:Hp}{h:Heap}{a:Addr}{u:HO}(r:Rd H a u)(x:HOk P w H h):ObjOk P w H h a u:=by
 rcases r with r | ⟨o,r⟩
 ·exact x a u r
 ·obtain⟨_,q⟩:=x a _ r
  exact q
def Mut:Option HO->Prop
 | some (.lst _)=>True
 | some (.dK _)=>True
 | some (.dT _)=>True
 | some (.set _ _)=>True
 | some (.ins _ _ _)=>True
 | some (.ext _)=>True
 | _=>False
section
variable{P:Program}{w:World}{H:Hp}{h h':Heap}{x e:Addr}{o':HO}
theorem HOk.write(ok:HOk P w H h)(mu:Mut (H x))(he:e=x\/H e=some (.own x))(k:∀b u,b≠e->h.get? b=some u->h'.get? b=some u)(heo:∃u,h'.get? e=some u)
  (new:ObjOk P w (upd H x o') h' x o'):HOk P w (upd H x o') h':=fun b u q=>by
 have nown:∀c y,H c=some (.own y)->c≠x:=fun c y r z=>by subst z;rw[r] at mu;exact mu
 have ntup:∀c xs,H c=some (.tup xs)->c≠x:=fun c xs r z=>by subst z;rw[r] at mu;exact mu
 by_cases hb:b=x
 ·subst hb;rw[c_] at q;cases q;exact new
 ·rw[l_ hb] at q
  by_cases hbe:b=e
  ·have q':H b=some (.own x):=by
    rcases he with z | z
    ·exact absurd (hbe.trans z) hb
    ·rw[hbe];exact z
   rw[q] at q';cases q'
   obtain⟨v,hv⟩:=heo
   exact⟨v,by rw[hbe];exact hv⟩
  ·refine(ok b u q).stay (fun c v hc r=>k c v ?_ r) (fun c r=>by rw[l_ (nown c b r)];exact r) fun c xs r=>by rw[l_ (ntup c xs r)];exact r
   rcases hc with rfl | hc
   ·exact hbe
   ·rintro rfl
    rcases he with z | z
    ·exact nown c b hc z
    ·rw[hc] at z;cases z;exact hb rfl
end
structure Un(fs ex:List Addr)(H H':Hp)(h h':Heap):Prop where
 keep:∀b o,h.get? b=some o->H b=none->b∉fs->b∉ex->h'.get? b=some o
 slot:∀b o,h.get? b=some o->H b=none->b∈fs->b∉ex->∃sl,h'.get? b=some {o with slots:=sl}
 free:∀b o,h.get? b=some o->H b=none->b∉ex->H' b=none
 there:∀b o,h.get? b=some o->b∉ex->∃o',h'.get? b=some o'
 tups:∀b xs,H b=some (.tup xs)->H' b=some (.tup xs)
 frzs:∀b o u,H b=some (.frz o u)->H' b=some (.frz o u)
 tbls:∀b ps,H b=some (.tbl ps)->∃more,H' b=some (.tbl (ps++more))
section
variable{fs fs' ex ex':List Addr}{H H1 H2:Hp}{h h1 h2 h':Heap}{a x e:Addr}{o:HO}
theorem Un.any(u:Un fs ex H H1 h h1){b:Addr}{ob:Obj}(q:h.get? b=some ob)(n:H b=none)(hx:b∉ex):∃sl,h1.get? b=some {ob with slots:=sl}:=by
 by_cases hb:b∈fs
 ·exact u.slot b ob q n hb hx
 ·exact⟨ob.slots,u.keep b ob q n hb hx⟩
theorem Un.kept(k:∀b u,h.get? b=some u->h'.get? b=some u):Un fs ex H H h h' :=
 ⟨fun b ob q _ _ _=>k b ob q,fun b ob q _ _ _=>⟨ob.slots,k b ob q⟩,fun _ _ _ n _=>n,fun b ob q _=>⟨ob,k b ob q⟩,fun _ _ q=>q,fun _ _ _ q=>q,fun _ ps q=>⟨#[],by rw[q];simp⟩⟩
theorem Un.refl:Un fs ex H H h h:=Un.kept fun _ _ q=>q
theorem Un.laid(k:∀b u,h.get? b=some u->h'.get? b=some u)(hp:h.objs.size<=a)(hn:H a=none):Un fs ex H (upd H a o) h h' where
 keep:=fun b u q _ _ _=>k b u q
 slot:=fun b u q _ _ _=>⟨u.slots,k b u q⟩
 free:=fun b u q n _=>by rw[l_ (Nat.ne_of_lt (Nat.lt_of_lt_of_le (Heap.lt_size q) hp))];exact n
 there:=fun b u q _=>⟨u,k b u q⟩
 tups:=fun b xs q=>by rw[l_ (k_ q hn)];exact q
 frzs:=fun b u xs q=>by rw[l_ (k_ q hn)];exact q
 tbls:=fun b ps q=>⟨#[],by rw[l_ (k_ q hn),q];simp⟩
theorem Un.write(mu:Mut (H x))(he:e=x\/H e=some (.own x))(k:∀b u,b≠e->h.get? b=some u->h'.get? b=some u)(heo:∃u,h'.get? e=some u):Un fs ex H (upd H x o) h h':=by
 have hx:∀b,H b=none->b≠x:=fun b n z=>by subst z;rw[n] at mu;exact mu
 have hb:∀b,H b=none->b≠e:=fun b n z=>by
  subst z
  rcases he with r | r
  ·exact hx b n r
  ·rw[n] at r;cases r
 have hm:∀b u,H b=some u->¬ Mut (some u)->b≠x:=fun b u q nm z=>by subst z;rw[q] at mu;exact nm mu
 refine⟨fun b u q n _ _=>k b u (hb b n) q,fun b u q n _ _=>⟨u.slots,k b u (hb b n) q⟩,fun b u q n _=>by rw[l_ (hx b n)];exact n,fun b u q _=>?_,
  fun b xs q=>by rw[l_ (hm b _ q fun z=>z)];exact q,fun b u xs q=>by rw[l_ (hm b _ q fun z=>z)];exact q,fun b ps q=>⟨#[],by rw[l_ (hm b _ q fun z=>z),q];simp⟩⟩
 by_cases hbe:b=e
 ·subst hbe;exact heo
 ·exact⟨u,k b u hbe q⟩
end
def trk(h:Heap)(H:Hp):List Addr:=(List.range h.objs.size).filter fun a=>(H a).isSome
def hidT(h:Heap)(H:Hp):Heap:=PySem.W.hideAll h (trk h H)
theorem kz_(h:Heap)(H:Hp):(hidT h H).objs.size=h.objs.size:=PySem.W.hideAll_size _ _
theorem lZ_{h:Heap}{H:Hp}{b:Addr}{o:Obj}(e:h.get? b=some o)(n:H b=none):(hidT h H).get? b=some o :=
 PySem.W.hideAll_get _ e fun hm=>by
  have q:(H b).isSome=true:=(List.mem_filter.mp hm).2
  rw[n] at q;simp at q
theorem nW_{h:Heap}{H:Hp}{b:Addr}{o:Obj}(e:(hidT h H).get? b=some o):h.get? b=some o/\H b=none:=by
 have e':h.get? b=some o:=PySem.W.of_hideAll (trk h H) e
 refine⟨e',?_⟩
 cases q:H b with
 | none=>rfl
 | some x =>
  have hm:b∈trk h H:=List.mem_filter.mpr ⟨List.mem_range.mpr (Heap.lt_size e'),by simp[q]⟩
  have z:(hidT h H).get? b=none:=PySem.W.hideAll_none (trk h H) hm
  rw[z] at e;cases e
def oo_(g h:Heap)(L:Addr):List (Addr×Obj):=(List.range h.objs.size).filterMap fun a=>if a=L\/(g.get? a).isSome=true then none else (h.get? a).map fun o=>(a,o)
def rest(g h:Heap)(L d:Addr):List (Addr×Obj):=(oo_ g h L).filter fun p=>decide (p.1≠d)
structure Mod(K:PySem.W.Frag)(mg:Str->Option Value)(base:Heap):Prop where
 kin:K.In base
 glob:base.Ns mainGlobals mg
 blt:∃mb,base.Ns builtinsNs mb/\∀x:Str,x≠"__name__"->mb x=bootBuiltins x
 nolimit:base.NoLimit
structure Cx where
 prog:Program
 w:World
 K:PySem.W.Frag
 mg:Str->Option Value
 base:Heap
 A:Around
 N:List Str
 s₀:Shared
 H₀:Hp
 env:Env
 outer:List Env
 stack:List Env
 ex:List Addr
 fn:Str->Bool
 calm:Bool
 pn:List (Addr×Obj)
 xe:Value->Shared->Prop
def frs(l:List Env):List Addr:=l.filterMap (·.frame)
abbrev Cx.fs(X:Cx):List Addr:=frs X.outer
def Vis(sc:Scope)(x:Str):Prop:=sc.names.lookup x=some .local\/sc.names.lookup x=some .cell\/sc.names.lookup x=some .free
def Loc(sc:Scope)(x:Str):Prop:=sc.names.lookup x=some .local\/sc.names.lookup x=some .cell
def Look(env:Env)(h:Heap)(m:Str->Option Value)(x:Str)(u:Value):Prop :=
 (env.kindOf x=some .local/\m x=some u)\/((env.kindOf x=some .cell\/env.kindOf x=some .free)/\∃c,env.cells.lookup x=some c/\h.IsCell c (some u))
structure Cx.Ok(X:Cx):Prop where
 mod:Mod X.K X.mg X.base
 kind:X.env.scope.kind=.function
 glob:X.env.globals=mainGlobals
 blt:X.env.builtins=builtinsNs
 above:X.s₀.heap.objs.size<=X.env.locals
 inj:∀x y c,X.env.cells.lookup x=some c->X.env.cells.lookup y=some c->x=y
 has:∀x,(X.env.kindOf x=some .cell\/X.env.kindOf x=some .free)->∃c,X.env.cells.lookup x=some c
 cab:∀x c,X.fn x=true->X.env.cells.lookup x=some c->X.s₀.heap.objs.size<=c
 hd:X.calm=true->X.A.handled=none
 frames:X.A.frames=some X.stack
 stk:X.stack=X.outer\/(X.stack=X.env::X.outer/\X.env.frame=some X.env.locals)
 exf:∀b∈X.ex,b≠X.env.locals/\∀x c,X.env.cells.lookup x=some c->c≠b
 bs:∀b o,X.base.get? b=some o->X.s₀.heap.get? b=some o/\X.H₀ b=none
 bsz:X.base.objs.size<=X.s₀.heap.objs.size
 noex:∀b o,X.base.get? b=some o->b∉X.ex
 exfs:∀b∈X.ex,b∉X.fs
 funs:X.s₀.heap.FunFrames X.base X.outer
 frf:∀b∈X.fs,X.H₀ b=none
structure Inv(X:Cx)(pins:List (Addr×Obj))(σ:List (Option V))(H:Hp)(s:Shared):Prop where
 ok:X.Ok
 os:s.os=X.s₀.os
 bare:AllBare s.gens
 base:Un X.fs X.ex X.H₀ H X.s₀.heap s.heap
 loc:∃m,s.heap.Ns X.env.locals m/\∀(i:Nat) (x:Str) (v:V),X.N[i]?=some x->σ[i]?=some (some v)->Vis X.env.scope x->∃u,RelV v u/\Look X.env s.heap m x u
 cell:∀x c,X.env.cells.lookup x=some c->∃v,s.heap.IsCell c v
 free:H X.env.locals=none
 freeC:∀x c,X.env.cells.lookup x=some c->H c=none
 pin:∀p∈X.pn++pins,s.heap.get? p.1=some p.2/\H p.1=none/\p.1≠X.env.locals/\p.1∉X.fs/\∀v,p.2.data≠.cell v
 hok:HOk X.prog X.w H s.heap
 len:σ.length=X.N.length
section
variable{X:Cx}{pins:List (Addr×Obj)}{σ:List (Option V)}{H H':Hp}{s:Shared}{h':Heap}
theorem Cx.Ok.nofr(ok:X.Ok){b:Addr}{o:Obj}(e:X.base.get? b=some o):b∉X.fs:=fun hb=>by
 have:=(ok.funs.mem hb).1
 rw[e] at this;cases this
theorem Inv.bs(I:Inv X pins σ H s):∀b o,X.base.get? b=some o->s.heap.get? b=some o/\H b=none:=fun b o e =>
 ⟨I.base.keep b o (I.ok.bs b o e).1 (I.ok.bs b o e).2 (I.ok.nofr e) (I.ok.noex b o e),I.base.free b o (I.ok.bs b o e).1 (I.ok.bs b o e).2 (I.ok.noex b o e)⟩
theorem Inv.bk(I:Inv X pins σ H s):∀b o,X.base.get? b=some o->s.heap.get? b=some o:=fun b o e=>(I.bs b o e).1
theorem Inv.mod(I:Inv X pins σ H s):Mod X.K X.mg X.base:=I.ok.mod
theorem Inv.kIn(I:Inv X pins σ H s):X.K.In s.heap:=I.ok.mod.kin.keeps I.bk
theorem Inv.fr(I:Inv X pins σ H s):∃m,Fr X.base X.env.locals s.heap m :=
 let ⟨m,hn,_⟩:=I.loc
 ⟨m,hn,I.bk,Nat.le_trans I.ok.bsz I.ok.above⟩
theorem Inv.lt(I:Inv X pins σ H s):X.env.locals<s.heap.objs.size:=let ⟨_,hn,_⟩:=I.loc;hn.lt
theorem Inv.sz(I:Inv X pins σ H s):X.s₀.heap.objs.size<=s.heap.objs.size:=Nat.le_trans I.ok.above (Nat.le_of_lt I.lt)
theorem Inv.nofs(I:Inv X pins σ H s){a:Addr}(h:s.heap.objs.size<=a):a∉X.fs:=fun hb=>by
 obtain⟨_,o,ho,_⟩:=I.ok.funs.mem hb
 exact absurd (Nat.lt_of_lt_of_le (Heap.lt_size ho) (Nat.le_trans I.sz h)) (Nat.lt_irrefl _)
theorem Inv.cne(I:Inv X pins σ H s):∀x c,X.env.cells.lookup x=some c->c≠X.env.locals:=fun x c e z=>by
 obtain⟨v,o,ho,hd⟩:=I.cell x c e
 obtain⟨m,⟨o',es,ep,ho',hd',_⟩,_⟩:=I.loc
 rw[z,ho'] at ho;cases ho;rw[hd'] at hd;cases hd
theorem Inv.funs(I:Inv X pins σ H s):s.heap.FunFrames X.base X.outer:=by
 have all:∀(l:List Env),(∀b∈frs l,b∈X.fs)->X.s₀.heap.FunFrames X.base l->s.heap.FunFrames X.base l:=by
  intro l
  induction l with
  | nil=>intro _ _;trivial
  | cons env r ih =>
   intro hs hl
   obtain⟨hk,⟨L,o,hf,hn,ho,hd⟩,hr⟩:=hl
   have hL:L∈X.fs:=hs L (by unfold frs;rw[List.filterMap_cons,hf];exact List.mem_cons_self)
   obtain⟨sl,e⟩:=I.base.slot L o ho (I.ok.frf L hL) hL fun z=>I.ok.exfs L z hL
   exact⟨hk,⟨L,_,hf,hn,e,hd⟩,ih (fun b hb=>hs b (by unfold frs;rw[List.filterMap_cons,hf];exact List.mem_cons_of_mem _ hb)) hr⟩
 exact all X.outer (fun _ hb=>hb) I.ok.funs
theorem Inv.stack(I:Inv X pins σ H s):s.heap.FunFrames X.base X.stack:=by
 rcases I.ok.stk with e | ⟨e,hf⟩
 ·rw[e];exact I.funs
 ·rw[e]
  obtain⟨m,hn,_⟩:=I.loc
  refine .cons (by rw[I.ok.kind];decide) hf hn ?_ I.funs
  exact Heap.get?_none_of_le (Nat.le_trans I.ok.bsz I.ok.above)
theorem Inv.stkSub(I:Inv X pins σ H s):∀b∈frs X.stack,b∈X.env.locals::X.fs:=fun b hb=>by
 rcases I.ok.stk with e | ⟨e,hf⟩
 ·rw[e] at hb;exact List.mem_cons_of_mem _ hb
 ·rw[e] at hb
  unfold frs at hb
  rw[List.filterMap_cons,hf] at hb
  exact hb
theorem Inv.stkFree(I:Inv X pins σ H s):∀b∈frs X.stack,H b=none:=fun b hb=>by
 rcases List.mem_cons.mp (I.stkSub b hb) with e | hb
 ·rw[e];exact I.free
 ·obtain⟨_,o,ho,_⟩:=I.ok.funs.mem hb
  exact I.base.free b o ho (I.ok.frf b hb) fun z=>I.ok.exfs b z hb
theorem Inv.step{g':Array GenState}{t':Nat}{d':Drawn}{ch:List Addr}(I:Inv X pins σ H s)
  (hch:∀b∈ch,(b∈X.ex\/X.s₀.heap.objs.size<=b)/\b≠X.env.locals/\(∀x c,X.env.cells.lookup x=some c->c≠b)/\∀p∈X.pn++pins,p.1≠b)
  (keep:∀b o,b≠X.env.locals->b∉X.fs->b∉ch->s.heap.get? b=some o->H b=none->h'.get? b=some o)
  (slot:∀b o,b≠X.env.locals->b∈X.fs->b∉ch->s.heap.get? b=some o->H b=none->∃sl,h'.get? b=some {o with slots:=sl}) (free:∀b o,b∉ch->s.heap.get? b=some o->H b=none->H' b=none)
  (there:∀b o,b∉ch->s.heap.get? b=some o->∃o',h'.get? b=some o')
  (tups:∀b xs,H b=some (.tup xs)->H' b=some (.tup xs)) (frzs:∀b o u,H b=some (.frz o u)->H' b=some (.frz o u)) (tbls:∀b ps,H b=some (.tbl ps)->∃more,H' b=some (.tbl (ps++more)))
  (ns:∀m,s.heap.Ns X.env.locals m->h'.Ns X.env.locals m) (hok:HOk X.prog X.w H' h') (hg:AllBare g') :
  Inv X pins σ H' {s with heap:=h',gens:=g',drawn:=d',toks:=t'}:=by
 have neL:∀b o,X.s₀.heap.get? b=some o->b≠X.env.locals:=fun b o e=>Nat.ne_of_lt (Nat.lt_of_lt_of_le (Heap.lt_size e) I.ok.above)
 have neC:∀b o,X.s₀.heap.get? b=some o->b∉X.ex->b∉ch:=fun b o e hx hb=>by
  rcases(hch b hb).1 with z | z
  ·exact hx z
  ·exact absurd (Nat.lt_of_lt_of_le (Heap.lt_size e) z) (Nat.lt_irrefl _)
 have cellK:∀x c,X.env.cells.lookup x=some c->∀v,s.heap.IsCell c v->h'.IsCell c v:=fun x c e v ⟨o,ho,hd⟩=>by
  have nch:c∉ch:=fun z=>(hch c z).2.2.1 x c e rfl
  by_cases hc:c∈X.fs
  ·obtain⟨sl,q⟩:=slot c o (I.cne x c e) hc nch ho (I.freeC x c e)
   exact⟨_,q,hd⟩
  ·exact⟨o,keep c o (I.cne x c e) hc nch ho (I.freeC x c e),hd⟩
 refine⟨I.ok,I.os,hg,⟨fun b o e n hb hx=>?_,fun b o e n hb hx=>?_,fun b o e n hx=>?_,fun b o e hx=>?_,fun b xs e=>tups b xs (I.base.tups b xs e),fun b o xs e=>frzs b o xs (I.base.frzs b o xs e),fun b ps e=>?_⟩,?_,fun x c e=>?_,?_,fun x c e=>?_,fun p hp=>?_,hok,I.len⟩
 ·exact keep b o (neL b o e) hb (neC b o e hx) (I.base.keep b o e n hb hx) (I.base.free b o e n hx)
 ·obtain⟨sl,e1⟩:=I.base.slot b o e n hb hx
  obtain⟨sl',e2⟩:=slot b _ (neL b o e) hb (neC b o e hx) e1 (I.base.free b o e n hx)
  exact⟨sl',e2⟩
 ·obtain⟨o',e1⟩:=I.base.there b o e hx
  exact free b o' (neC b o e hx) e1 (I.base.free b o e n hx)
 ·obtain⟨o',e1⟩:=I.base.there b o e hx
  exact there b o' (neC b o e hx) e1
 ·obtain⟨m1,e1⟩:=I.base.tbls b ps e
  obtain⟨m2,e2⟩:=tbls b _ e1
  exact⟨m1++m2,by rw[e2,Array.append_assoc]⟩
 ·obtain⟨m,hn,hl⟩:=I.loc
  refine⟨m,ns m hn,fun i x v e1 e2 e3=>?_⟩
  obtain⟨u,r,l⟩:=hl i x v e1 e2 e3
  refine⟨u,r,?_⟩
  rcases l with l | ⟨k,c,e,z⟩
  ·exact .inl l
  ·exact .inr ⟨k,c,e,cellK x c e _ z⟩
 ·obtain⟨v,z⟩:=I.cell x c e
  exact⟨v,cellK x c e v z⟩
 ·obtain⟨m,⟨o,_,_,ho,_⟩,_⟩:=I.loc
  exact free _ o (fun z=>(hch _ z).2.1 rfl) ho I.free
 ·obtain⟨v,o,ho,hd⟩:=I.cell x c e
  exact free c o (fun z=>(hch c z).2.2.1 x c e rfl) ho (I.freeC x c e)
 ·obtain⟨e,n,ne,nf,d⟩:=I.pin p hp
  have nch:p.1∉ch:=fun z=>(hch p.1 z).2.2.2 p hp rfl
  exact⟨keep p.1 p.2 ne nf nch e n,free p.1 p.2 nch e n,ne,nf,d⟩
theorem Inv.un{t':Nat}(I:Inv X pins σ H s)(u:Un X.fs [] H H' s.heap h')(hok:HOk X.prog X.w H' h'):Inv X pins σ H' {s with heap:=h',toks:=t'}:=by
 obtain⟨m,⟨o,es,ep,ho,r⟩,_⟩:=id I.loc
 obtain⟨sl,hL⟩:=u.any ho I.free (by simp)
 exact I.step (g':=s.gens) (d':=s.drawn) (ch:=[]) (fun _ z=>nomatch z) (fun b o _ hb _ e n=>u.keep b o e n hb (by simp)) (fun b o _ hb _ e n=>u.slot b o e n hb (by simp)) (fun b o _ e n=>u.free b o e n (by simp)) (fun b o _ e=>u.there b o e (by simp)) u.tups u.frzs u.tbls (fun m' hm=>by
  obtain⟨o',es',ep',ho',r'⟩:=hm
  rw[ho] at ho';cases ho'
  exact⟨_,es',ep',hL,r'⟩) hok I.bare
theorem Inv.call{g':Array GenState}{t':Nat}{d':Drawn}{ch:List Addr}(I:Inv X pins σ H s)(u:Un (frs X.stack) ch H H' s.heap h')(hok:HOk X.prog X.w H' h')(hg:AllBare g')
  (hch:∀b∈ch,(b∈X.ex\/X.s₀.heap.objs.size<=b)/\b≠X.env.locals/\(∀x c,X.env.cells.lookup x=some c->c≠b)/\∀p∈X.pn++pins,p.1≠b) :
  Inv X pins σ H' {s with heap:=h',gens:=g',drawn:=d',toks:=t'}:=by
 obtain⟨m,⟨o,es,ep,ho,r⟩,_⟩:=id I.loc
 obtain⟨sl,hL⟩:=u.any ho I.free fun z=>(hch _ z).2.1 rfl
 exact I.step (ch:=ch) hch (fun b o hL hb hc e n=>u.keep b o e n (fun z=>(List.mem_cons.mp (I.stkSub b z)).elim hL hb) hc) (fun b o _ _ hc e n=>u.any e n hc) (fun b o hc e n=>u.free b o e n hc) (fun b o hc e=>u.there b o e hc) u.tups u.frzs u.tbls (fun m' hm=>by
  obtain⟨o',es',ep',ho',r'⟩:=hm
  rw[ho] at ho';cases ho'
  exact⟨_,es',ep',hL,r'⟩) hok hg
theorem Inv.turned{t':Nat}{it:Addr}(I:Inv X pins σ H s)(k:∀b o,b≠it->s.heap.get? b=some o->h'.get? b=some o)(hn:H it=none)(hL:it≠X.env.locals)
  (h1:it∈X.ex\/X.s₀.heap.objs.size<=it) (h2:∀x c,X.env.cells.lookup x=some c->c≠it) (h3:∀p∈X.pn++pins,p.1≠it):Inv X pins σ H {s with heap:=h',toks:=t'}:=by
 have nit:∀b u,H b=some u->b≠it:=fun b u e z=>by rw[z,hn] at e;cases e
 refine I.step (g':=s.gens) (d':=s.drawn) (ch:=[it]) (fun b hb=>?_) (fun b o _ _ hc e _=>k b o (fun z=>hc (by simp[z])) e) (fun b o _ _ hc e _=>⟨o.slots,k b o (fun z=>hc (by simp[z])) e⟩) (fun _ _ _ _ n=>n)
  (fun b o hc e=>⟨o,k b o (fun z=>hc (by simp[z])) e⟩) (fun _ _ e=>e) (fun _ _ _ e=>e) (fun b ps e=>⟨#[],by rw[e];simp⟩) (fun m hm=>?_) (fun b u e=>?_) I.bare
 ·have e:b=it:=by simpa using hb
  subst e
  exact⟨h1,hL,h2,h3⟩
 ·obtain⟨o,es,ep,ho,r⟩:=hm
  exact⟨o,es,ep,k _ o (Ne.symm hL) ho,r⟩
 ·refine(I.hok b u e).stay (fun c v hc q=>k c v ?_ q) (fun _ q=>q) fun _ _ q=>q
  rcases hc with z | z
  ·rw[z];exact nit b u e
  ·exact nit c _ z
theorem Inv.tok(I:Inv X pins σ H s)(t:Nat):Inv X pins σ H {s with toks:=t}:=I.un (h':=s.heap) (t':=t) Un.refl I.hok
theorem Inv.kept{t':Nat}(I:Inv X pins σ H s)(k:∀b u,s.heap.get? b=some u->h'.get? b=some u):Inv X pins σ H {s with heap:=h',toks:=t'}:=I.un (Un.kept k) (I.hok.kept k)
theorem Inv.laid{a:Addr}{o:HO}{t':Nat}(I:Inv X pins σ H s)(k:∀b u,s.heap.get? b=some u->h'.get? b=some u)(hp:s.heap.objs.size<=a)(new:ObjOk X.prog X.w (upd H a o) h' a o) :
  Inv X pins σ (upd H a o) {s with heap:=h',toks:=t'}:=I.un (Un.laid k hp (I.hok.fresh hp)) (I.hok.laid k hp new)
theorem Inv.write{x e:Addr}{o:HO}{t':Nat}(I:Inv X pins σ H s)(mu:Mut (H x))(he:e=x\/H e=some (.own x))(k:∀b u,b≠e->s.heap.get? b=some u->h'.get? b=some u)(heo:∃u,h'.get? e=some u)
  (new:ObjOk X.prog X.w (upd H x o) h' x o):Inv X pins σ (upd H x o) {s with heap:=h',toks:=t'}:=I.un (Un.write mu he k heo) (I.hok.write mu he k heo new)
theorem Inv.weak{σ':List (Option V)}(I:Inv X pins σ H s)(hl:σ'.length=σ.length)(w:∀(i:Nat) v,σ'[i]?=some (some v)->σ[i]?=some (some v)):Inv X pins σ' H s :=
 ⟨I.ok,I.os,I.bare,I.base,let ⟨m,hn,hl'⟩:=I.loc;⟨m,hn,fun i x v e1 e2 e3=>hl' i x v e1 (w i v e2) e3⟩,I.cell,I.free,I.freeC,I.pin,I.hok,hl.trans I.len⟩
theorem Inv.pins_of{pins':List (Addr×Obj)}(I:Inv X pins σ H s)(h:∀p∈pins',s.heap.get? p.1=some p.2/\H p.1=none/\p.1≠X.env.locals/\p.1∉X.fs/\∀v,p.2.data≠.cell v):Inv X pins' σ H s :=
 ⟨I.ok,I.os,I.bare,I.base,I.loc,I.cell,I.free,I.freeC,fun p hp=>(List.mem_append.mp hp).elim (fun z=>I.pin p (List.mem_append_left _ z)) (h p),I.hok,I.len⟩
theorem ew_{N:List Str}(hN:N.Nodup){i j:Nat}{x:Str}(a:N[i]?=some x)(b:N[j]?=some x):i=j:=by
 obtain⟨h1,e1⟩:=List.getElem?_eq_some_iff.mp a
 obtain⟨h2,e2⟩:=List.getElem?_eq_some_iff.mp b
 exact(List.getElem_inj hN).mp (e1.trans e2.symm)
theorem eW_{M:Model}{A:Around}{E:Value->Shared->Prop}{i:Nat}{x:Str}{v:V}{u:Value}{Q:Unit->Shared->Prop}(I:Inv X pins σ H s)(hN:X.N.Nodup)(hi:X.N[i]?=some x)(hx:Loc X.env.scope x)(r:RelV v u)
  (h:∀s',Inv X pins (σ.set i (some v)) H s'->(∃a,Heap.SameBut a s.heap s'.heap/\(a=X.env.locals\/X.env.cells.lookup x=some a))->Q () s') (hf:X.fn x=true\/X.env.scope.names.lookup x=some .local:=by first | exact .inl rfl | exact .inr rfl | assumption):wpAny M A (storeName X.env x u) Q E s:=by
 obtain⟨m,hn,hl⟩:=id I.loc
 have hcls:(X.env.scope.kind==.class || (X.env.scope.kind==.module&&X.env.locals != X.env.globals))=false:=by rw[I.ok.kind];rfl
 have hiσ:i<σ.length:=by rw[I.len];exact(List.getElem?_eq_some_iff.mp hi).1
 have cne:=I.cne
 have tracked:∀ {a:Addr} {h':Heap},(∃o,s.heap.get? a=some o/\H a=none)->Heap.SameBut a s.heap h'->HOk X.prog X.w H h':=fun {a h'} ha hs b ob e=>by
  obtain⟨_,_,hfree⟩:=ha
  refine(I.hok b ob e).stay (fun c w' hc q=>(hs.2 c ?_).trans q) (fun _ q=>q) fun _ _ q=>q
  rintro rfl
  rcases hc with rfl | hc
  ·rw[hfree] at e;cases e
  ·rw[hfree] at hc;cases hc
 rcases hx with hk | hk
 ·refine wpAny_storeName_local hk hn (fun h' hn' hs=>?_) hcls
  obtain⟨oL,_,_,hoL,_⟩:=id hn
  refine h _ ⟨I.ok,I.os,I.bare,⟨fun b o e n hb hx=>?_,fun b o e n hb hx=>?_,I.base.free,fun b o e hx=>?_,I.base.tups,I.base.frzs,I.base.tbls⟩,⟨_,hn',fun j y v' e1 e2 e3=>?_⟩,fun y c e=>?_,I.free,I.freeC,fun p hp=>?_,tracked ⟨oL,hoL,I.free⟩ hs,by simpa using I.len⟩ ⟨_,hs,.inl rfl⟩
  ·exact(hs.2 b (Nat.ne_of_lt (Nat.lt_of_lt_of_le (Heap.lt_size e) I.ok.above))).trans (I.base.keep b o e n hb hx)
  ·obtain⟨sl,e1⟩:=I.base.slot b o e n hb hx
   exact⟨sl,(hs.2 b (Nat.ne_of_lt (Nat.lt_of_lt_of_le (Heap.lt_size e) I.ok.above))).trans e1⟩
  ·obtain⟨o',e1⟩:=I.base.there b o e hx
   exact⟨o',(hs.2 b (Nat.ne_of_lt (Nat.lt_of_lt_of_le (Heap.lt_size e) I.ok.above))).trans e1⟩
  ·by_cases hj:j=i
   ·subst hj
    rw[hi] at e1;cases e1
    rw[List.getElem?_set_self hiσ] at e2
    cases e2
    exact⟨u,r,.inl ⟨hk,by simp⟩⟩
   ·rw[List.getElem?_set_ne (Ne.symm hj)] at e2
    obtain⟨u',r',q⟩:=hl j y v' e1 e2 e3
    refine⟨u',r',?_⟩
    rcases q with⟨k,e⟩ | ⟨k,c,e,z⟩
    ·refine .inl ⟨k,?_⟩
     have:y≠x:=fun e=>hj (ew_ hN e1 (e▸hi))
     simp[this,e]
    ·exact .inr ⟨k,c,e,z.sameBut hs (cne y c e)⟩
  ·obtain⟨w',z⟩:=I.cell y c e
   exact⟨w',z.sameBut hs (cne y c e)⟩
  ·obtain⟨e,n,ne,nf,d⟩:=I.pin p hp
   exact⟨(hs.2 p.1 ne).trans e,n,ne,nf,d⟩
 ·have hfn:X.fn x=true:=by
   rcases hf with z | z
   ·exact z
   ·rw[z] at hk;cases hk
  obtain⟨c,hc⟩:=I.ok.has x (.inl hk)
  obtain⟨w',z⟩:=I.cell x c hc
  refine wpAny_storeName_cell I.ok.kind hk hc z (fun h' hc' hs=>?_)
  obtain⟨oc,hoc,hocd⟩:=id z
  refine h {s with heap:=h'} ⟨I.ok,I.os,I.bare,⟨fun b o e n hb hx=>?_,fun b o e n hb hx=>?_,I.base.free,fun b o e hx=>?_,I.base.tups,I.base.frzs,I.base.tbls⟩,⟨m,hn.sameBut hs (Ne.symm (cne x c hc)),fun j y v' e1 e2 e3=>?_⟩,fun y c' e=>?_,I.free,I.freeC,fun p hp=>?_,tracked ⟨oc,hoc,I.freeC x c hc⟩ hs,by simpa using I.len⟩ ⟨c,hs,.inr hc⟩
  ·exact(hs.2 b (Nat.ne_of_lt (Nat.lt_of_lt_of_le (Heap.lt_size e) (I.ok.cab x c hfn hc)))).trans (I.base.keep b o e n hb hx)
  ·obtain⟨sl,e1⟩:=I.base.slot b o e n hb hx
   exact⟨sl,(hs.2 b (Nat.ne_of_lt (Nat.lt_of_lt_of_le (Heap.lt_size e) (I.ok.cab x c hfn hc)))).trans e1⟩
  ·obtain⟨o',e1⟩:=I.base.there b o e hx
   exact⟨o',(hs.2 b (Nat.ne_of_lt (Nat.lt_of_lt_of_le (Heap.lt_size e) (I.ok.cab x c hfn hc)))).trans e1⟩
  ·by_cases hj:j=i
   ·subst hj
    rw[hi] at e1;cases e1
    rw[List.getElem?_set_self hiσ] at e2
    cases e2
    exact⟨u,r,.inr ⟨.inl hk,c,hc,hc'⟩⟩
   ·rw[List.getElem?_set_ne (Ne.symm hj)] at e2
    obtain⟨u',r',q⟩:=hl j y v' e1 e2 e3
    refine⟨u',r',?_⟩
    rcases q with q | ⟨k,c',e,z'⟩
    ·exact .inl q
    ·refine .inr ⟨k,c',e,z'.sameBut hs ?_⟩
     rintro rfl
     exact hj (ew_ hN e1 (I.ok.inj _ _ _ e hc▸hi))
  ·by_cases hcc:c'=c
   ·subst hcc;exact⟨_,hc'⟩
   ·obtain⟨w2,z2⟩:=I.cell y c' e
    exact⟨w2,z2.sameBut hs hcc⟩
  ·obtain⟨e,n,ne,nf,d⟩:=I.pin p hp
   refine⟨(hs.2 p.1 ?_).trans e,n,ne,nf,d⟩
   intro q
   rw[q,hoc] at e
   have q':oc=p.2:=Option.some.inj e
   exact d w' (by rw[<-q'];exact hocd)
theorem bs_{M:Model}{A:Around}{E:Value->Shared->Prop}{i:Nat}{x:Str}{v:V}{u:Value}{Q:Unit->Shared->Prop}(I:Inv X pins σ H s)(hN:X.N.Nodup)(hi:X.N[i]?=some x)(hx:Loc X.env.scope x)(r:RelV v u)
  (h:∀s',Inv X pins (σ.set i (some v)) H s'->Q () s') (hf:X.fn x=true\/X.env.scope.names.lookup x=some .local:=by first | exact .inl rfl | exact .inr rfl | assumption):wpAny M A (storeName X.env x u) Q E s :=
 eW_ I hN hi hx r (fun s' I' _=>h s' I') hf
theorem Inv.call'{s':Shared}{ch:List Addr}(I:Inv X pins σ H s)(ho:s'.os=s.os)(u:Un (frs X.stack) ch H H' s.heap s'.heap)(hok:HOk X.prog X.w H' s'.heap)(hg:AllBare s'.gens)
  (hch:∀b∈ch,(b∈X.ex\/X.s₀.heap.objs.size<=b)/\b≠X.env.locals/\(∀x c,X.env.cells.lookup x=some c->c≠b)/\∀p∈X.pn++pins,p.1≠b):Inv X pins σ H' s':=by
 obtain⟨h',g',d',t',o'⟩:=s'
 have e:o'=s.os:=ho
 subst e
 exact I.call (g':=g') (t':=t') (d':=d') u hok hg hch
end
abbrev XK:=Value->Option Addr->Hp->Prop
abbrev St:=List (Option V)
abbrev VK:=V->Hp->Prop
abbrev TE:=St->Hp->VK->Prop
abbrev TT:=St->Hp->(Bool->Hp->Prop)->Prop
abbrev TA:=St->Hp->(List V->Hp->Prop)->Prop
structure Ends where
 nx:St->Hp->Prop
 rt:VK
 bk:St->Hp->Prop:=fun _ _=>False
 ct:St->Hp->Prop:=fun _ _=>False
abbrev TS:=Ends->St->Hp->Prop
def EP(X:Cx)(pins:List (Addr×Obj))(σ:St)(Q:VK)(u:Value)(s':Shared):Prop:=∃v H',Inv X pins σ H' s'/\RelV v u/\Q v H'
def TP(X:Cx)(pins:List (Addr×Obj))(σ:St)(Q:Bool->Hp->Prop)(b:Bool)(s':Shared):Prop:=∃H',Inv X pins σ H' s'/\Q b H'
def AP(X:Cx)(pins:List (Addr×Obj))(σ:St)(Q:List V->Hp->Prop)(us:List Value)(s':Shared):Prop:=∃vs H',Inv X pins σ H' s'/\Vals vs us/\Q vs H'
def SP(X:Cx)(pins:List (Addr×Obj))(D:Ends)(f:Flow)(s':Shared):Prop :=
 match f with
 | .next=>∃ σ' H',Inv X pins σ' H' s'/\D.nx σ' H'
 | .brk=>∃ σ' H',Inv X pins σ' H' s'/\D.bk σ' H'
 | .cont=>∃ σ' H',Inv X pins σ' H' s'/\D.ct σ' H'
 | .ret u=>∃v σ' H',Inv X pins σ' H' s'/\RelV v u/\D.rt v H'
def PE(X:Cx)(e:Expr)(t:TE):Prop :=
 ∀(pins:List (Addr×Obj)) (s:Shared) (σ:St) (H:Hp) (Q:VK),Inv X pins σ H s->t σ H Q->wpAny (model X.prog X.w) X.A (eval e X.env) (EP X pins σ Q) X.xe s
def PT(X:Cx)(e:Expr)(t:TT):Prop :=
 ∀(pins:List (Addr×Obj)) (s:Shared) (σ:St) (H:Hp) (Q:Bool->Hp->Prop),Inv X pins σ H s->t σ H Q->wpAny (model X.prog X.w) X.A (isTrue e X.env (eval e X.env)) (TP X pins σ Q) X.xe s
def PW(X:Cx)(e:Expr)(t:TT):Prop :=
 ∀(whole:Sem Value) (pins:List (Addr×Obj)) (s:Shared) (σ:St) (H:Hp) (Q:Bool->Hp->Prop),Inv X pins σ H s->t σ H Q->wpAny (model X.prog X.w) X.A (isTrue e X.env whole) (TP X pins σ Q) X.xe s
theorem PW.pt{X:Cx}{e:Expr}{t:TT}(h:PW X e t):PT X e t:=h _
def PA(X:Cx)(es:List Expr)(t:TA):Prop :=
 ∀(pos:Pos) (pins:List (Addr×Obj)) (s:Shared) (σ:St) (H:Hp) (Q:List V->Hp->Prop),Inv X pins σ H s->t σ H Q->wpAny (model X.prog X.w) X.A (spliced (backTo pos (starEach es X.env))) (AP X pins σ Q) X.xe s
def PS(X:Cx)(st:Stmt)(t:TS):Prop :=
 ∀(pins:List (Addr×Obj)) (s:Shared) (σ:St) (H:Hp) (D:Ends),Inv X pins σ H s->t D σ H->wpAny (model X.prog X.w) X.A (exec st X.env) (SP X pins D) X.xe s
def PSs(X:Cx)(st:List Stmt)(t:TS):Prop :=
 ∀(pins:List (Addr×Obj)) (s:Shared) (σ:St) (H:Hp) (D:Ends),Inv X pins σ H s->t D σ H->wpAny (model X.prog X.w) X.A (execs st X.env) (SP X pins D) X.xe s
theorem thn{α:Type}{t:Sem α}{Q Q':α->Shared->Prop}{M:Model}{A:Around}{E:Value->Shared->Prop}{s:Shared}(h:wpAny M A t Q E s)(hQ:∀a s,Q a s->Q' a s):wpAny M A t Q' E s:=wpAny_mono h hQ fun _ _ x=>x
section
variable{X:Cx}
theorem bin{a b:Expr}{ta tb:TE}(ha:PE X a ta)(hb:PE X b tb){pins:List (Addr×Obj)}{s:Shared}{σ:St}{H:Hp}{R:V->V->Hp->Prop}(I:Inv X pins σ H s)(h:ta σ H fun x H1=>tb σ H1 fun y H2=>R x y H2)
  {α:Type} {Q:α->Shared->Prop} {f:Value->Value->Sem α}
  (hf:∀v u s2 x y H2,Inv X pins σ H2 s2->RelV x v->RelV y u->R x y H2->wpAny (model X.prog X.w) X.A (f v u) Q X.xe s2) :
  wpAny (model X.prog X.w) X.A (eval a X.env) (fun v s₁=>wpAny (model X.prog X.w) X.A (eval b X.env) (fun u s₂=>wpAny (model X.prog X.w) X.A (f v u) Q X.xe s₂) X.xe s₁) X.xe s:=by
 refine thn (ha pins s σ H _ I h) fun v s1 ⟨x,H1,I1,r1,q1⟩=>?_
 refine thn (hb pins s1 σ H1 _ I1 q1) fun u s2 ⟨y,H2,I2,r2,q2⟩=>?_
 exact hf v u s2 x y H2 I2 r1 r2 q2
def tVar(i:Nat):TE:=fun σ H Q=>∃v,σ[i]?=some (some v)/\Q v H
def tC(v:V):TE:=fun _ H Q=>Q v H
theorem oL_{i:Nat}{x:Str}{pos:Pos}(hN:X.N[i]?=some x)(hv:Vis X.env.scope x)(hd:(x==("__debug__":Str))=false:=by decide)(hcd:(x==("__classdict__":Str))=false:=by decide):PE X (.Name x pos) (tVar i):=by
 intro pins s σ H Q I h
 obtain⟨v,e,h⟩:=h
 obtain⟨m,hn,hl⟩:=I.loc
 obtain⟨u,r,l⟩:=hl i x v hN e hv
 have fin:EP X pins σ Q u s:=⟨v,H,I,r,h⟩
 rcases l with⟨hk,hm⟩ | ⟨hk,c,hc,hcell⟩
 ·exact wpAny_Name (wpAny_loadName_local I.ok.kind hk hn hm fin) hd
 ·rcases hk with hk | hk
  ·exact wpAny_Name (wpAny_loadName_cell I.ok.kind hk hc hcell fin) hd
  ·exact wpAny_Name (wpAny_loadName_free I.ok.kind hk hc hcell fin hcd) hd
theorem e_{i j pos}:PE X (.Constant (.int i) j pos) (tC (.int i)):=fun _ _ _ H _ I h=>wpAny_Constant_int ⟨.int i,H,I.tok _,⟨_,rfl⟩,h⟩
theorem cY_{b j pos}:PE X (.Constant (.bool b) j pos) (tC (.bl b)):=fun _ _ _ H _ I h=>Constant_bool ⟨.bl b,H,I,rfl,h⟩
theorem ad_{j pos}:PE X (.Constant .none j pos) (tC .non):=fun _ _ _ H _ I h=>Constant_none ⟨.non,H,I,rfl,h⟩
theorem aC_{x j pos}:PE X (.Constant (.str x) j pos) (tC (.str x)):=fun _ _ _ H _ I h=>Calls.Constant_str ⟨.str x,H,I.tok _,⟨_,rfl⟩,h⟩
def Gl(X:Cx)(x:Str):Prop:=X.env.kindOf x=some .globalImplicit
theorem dd_{E:Value->Shared->Prop}{pins:List (Addr×Obj)}{s:Shared}{σ:St}{H:Hp}{x:Str}{u:Value}{pos:Pos}{Q:Value->Shared->Prop}(I:Inv X pins σ H s)(hg:Gl X x)(hm:X.mg x=some u)(h:Q u s)
  (hd:(x==("__debug__":Str))=false:=by decide):wpAny (model X.prog X.w) X.A (eval (.Name x pos) X.env) Q E s :=
 Calls.Name_function_global I.ok.kind hg (Calls.loadGlobal_global (by rw[I.ok.glob];exact I.mod.glob.keeps I.bk) hm h) hd
theorem aP_{E:Value->Shared->Prop}{pins:List (Addr×Obj)}{s:Shared}{σ:St}{H:Hp}{x:Str}{u:Value}{pos:Pos}{Q:Value->Shared->Prop}(I:Inv X pins σ H s)(hg:Gl X x)(hm:X.mg x=none)(hv:bootBuiltins x=some u)(h:Q u s)
  (hn:x≠"__name__":=by decide) (hd:(x==("__debug__":Str))=false:=by decide):wpAny (model X.prog X.w) X.A (eval (.Name x pos) X.env) Q E s:=by
 obtain⟨mb,h1,h2⟩:=I.mod.blt
 exact Calls.Name_function_global I.ok.kind hg (Calls.loadGlobal_builtin (by rw[I.ok.glob];exact I.mod.glob.keeps I.bk) hm (by rw[I.ok.blt];exact h1.keeps I.bk) ((h2 x hn).trans hv) h) hd
theorem nH_{x:Str}{v:V}{u:Value}{pos:Pos}(hg:Gl X x)(hm:X.mg x=some u)(r:RelV v u)(hd:(x==("__debug__":Str))=false:=by decide):PE X (.Name x pos) (tC v) :=
 fun _ _ _ H _ I h=>dd_ I hg hm ⟨v,H,I,r,h⟩ hd
theorem nI_{x:Str}{v:V}{u:Value}{pos:Pos}(hg:Gl X x)(hm:X.mg x=none)(hv:bootBuiltins x=some u)(r:RelV v u)(hn:x≠"__name__":=by decide)(hd:(x==("__debug__":Str))=false:=by decide):PE X (.Name x pos) (tC v) :=
 fun _ _ _ H _ I h=>aP_ I hg hm hv ⟨v,H,I,r,h⟩ hn hd
def t2I(ta tb:TE)(k:Int->Int->Hp->Prop):St->Hp->Prop:=fun σ H=>ta σ H fun x H1=>tb σ H1 fun y H2=>∃i j,x=.int i/\y=.int j/\k i j H2
variable{a b:Expr}{ta tb:TE}{pos:Pos}
def PC(X:Cx)(op:CmpOp)(a b:Expr)(t:TE):Prop :=
 ∀(pins:List (Addr×Obj)) (s:Shared) (σ:St) (H:Hp) (Q:VK),Inv X pins σ H s->t σ H Q->
  wpAny (model X.prog X.w) X.A (eval a X.env) (fun v s₁=>wpAny (model X.prog X.w) X.A (eval b X.env) (fun u s₂=>wpAny (model X.prog X.w) X.A (compareOp op v u) (EP X pins σ Q) X.xe s₂) X.xe s₁) X.xe s
def tCmp(p:Int->Int->Bool)(ta tb:TE):TE:=fun σ H Q=>t2I ta tb (fun i j H2=>Q (.bl (p i j)) H2) σ H
abbrev tLt:TE->TE->TE:=tCmp fun i j=>decide (i<j)
abbrev tLe:TE->TE->TE:=tCmp fun i j=>decide (i<=j)
abbrev tGt:TE->TE->TE:=tCmp fun i j=>decide (j<i)
abbrev tGe:TE->TE->TE:=tCmp fun i j=>decide (j<=i)
abbrev tEqI:TE->TE->TE:=tCmp fun i j=>decide (i=j)
abbrev tNeI:TE->TE->TE:=tCmp fun i j=>!decide (i=j)
def tB(t:TE):TT:=fun σ H Q=>t σ H fun x H1=>∃c,x=.bl c/\Q c H1
theorem mF_{op:CmpOp}{t:TE}(h:PC X op a b t)(h1:behindInMarks op b=false:=by first | exact nobehind _ (by decide) (by decide) | rfl):PT X (.Compare a [op] [b] pos) (tB t):=by
 intro pins s σ H Q I hw
 refine wpAny_isTrue_Compare1 (thn (h pins s σ H _ I hw) fun v s1 h1=>thn h1 fun u s2 h2=>thn h2 fun c s3 ⟨x,H1,I1,r1,q1⟩=>?_) h1
 obtain⟨d,rfl,q⟩:=q1
 cases r1
 exact wpAny_truthy_bool ⟨H1,I1,q⟩
theorem aB_{e:Expr}{t:TE}(h:PE X e t)(he:∀whole,isTrue e X.env whole=(do let v <-whole;standAt e.pos;holding [v] (truthy v)):=by intro _;rfl):PT X e (tB t):=by
 intro pins s σ H Q I hw
 refine isTrue_plain (thn (h pins s σ H _ I hw) fun v s1 ⟨x,H1,I1,r1,q1⟩=>?_) (he _)
 obtain⟨d,rfl,q⟩:=q1
 cases r1
 exact wpAny_truthy_bool ⟨H1,I1,q⟩
variable{tA tB':TT}{rest:List Expr}
def tAnd(t u:TT):TT:=fun σ H Q=>t σ H fun c H1=>if c=true then u σ H1 Q else Q false H1
def tOr(t u:TT):TT:=fun σ H Q=>t σ H fun c H1=>if c=true then Q true H1 else u σ H1 Q
def tNot(t:TT):TT:=fun σ H Q=>t σ H fun c H1=>Q (!c) H1
theorem jL_(ha:PT X a tA):PW X (.BoolOp .And [a] pos) tA:=by
 intro wh pins s σ H Q I h
 refine isTrue_and (thn (ha pins s σ H Q I h) fun c s1 e=>?_)
 cases c with
 | true=>exact isTrue_and_nil e
 | false=>exact e
theorem bW_(ha:PT X a tA):PW X (.BoolOp .Or [a] pos) tA:=by
 intro wh pins s σ H Q I h
 refine isTrue_or (thn (ha pins s σ H Q I h) fun c s1 e=>?_)
 cases c with
 | false=>exact isTrue_or_nil e
 | true=>exact e
theorem mE_(ha:PT X a tA)(hb:PW X (.BoolOp .And (b::rest) pos) tB'):PW X (.BoolOp .And (a::b::rest) pos) (tAnd tA tB'):=by
 intro wh pins s σ H Q I h
 refine isTrue_and (thn (ha pins s σ H _ I h) fun c s1 ⟨H1,I1,q1⟩=>?_)
 cases c with
 | true=>exact hb wh pins s1 σ H1 Q I1 q1
 | false=>exact⟨H1,I1,q1⟩
theorem do_(ha:PT X a tA)(hb:PW X (.BoolOp .Or (b::rest) pos) tB'):PW X (.BoolOp .Or (a::b::rest) pos) (tOr tA tB'):=by
 intro wh pins s σ H Q I h
 refine isTrue_or (thn (ha pins s σ H _ I h) fun c s1 ⟨H1,I1,q1⟩=>?_)
 cases c with
 | true=>exact⟨H1,I1,q1⟩
 | false=>exact hb wh pins s1 σ H1 Q I1 q1
theorem aK_(ha:PT X a tA):PT X (.UnaryOp .Not a pos) (tNot tA):=by
 intro pins s σ H Q I h
 exact isTrue_not (ha pins s σ H (fun c H1=>Q (!c) H1) I h)
def tAndV(ta tb:TE):TE:=fun σ H Q=>ta σ H fun x H1=>∃c,x=.bl c/\if c=true then tb σ H1 Q else Q (.bl false) H1
def tNotV(ta:TE):TE:=fun σ H Q=>ta σ H fun x H1=>∃c,x=.bl c/\Q (.bl (!c)) H1
theorem cr_{op}{t:TE}(h:PE X a t):PE X (.BoolOp op [a] pos) t:=fun pins s σ H Q I hw=>BoolOp_one (h pins s σ H Q I hw)
theorem bY_(ha:PE X a ta)(hb:PE X (.BoolOp .And (b::rest) pos) tb):PE X (.BoolOp .And (a::b::rest) pos) (tAndV ta tb):=by
 intro pins s σ H Q I h
 refine BoolOp_and (thn (ha pins s σ H _ I h) fun v s1 ⟨x,H1,I1,r1,q1⟩=>?_)
 obtain⟨c,rfl,q1⟩:=q1
 cases r1
 refine wpAny_truthy_bool ?_
 cases c with
 | true=>exact hb pins s1 σ H1 Q I1 q1
 | false=>exact⟨.bl false,H1,I1,rfl,q1⟩
theorem mI_(ha:PE X a ta):PE X (.UnaryOp .Not a pos) (tNotV ta):=by
 intro pins s σ H Q I h
 refine UnaryOp_ (thn (ha pins s σ H _ I h) fun v s1 ⟨x,H1,I1,r1,q1⟩=>?_)
 obtain⟨c,rfl,q1⟩:=q1
 cases r1
 exact not_of (wpAny_truthy_bool ⟨.bl (!c),H1,I1,rfl,q1⟩)
end
def SqL(K:PySem.W.Frag)(H:Hp)(a:Addr)(xs:List V):Prop :=
 Rd H a (.lst xs)\/
  ∃(o:Obj) (its:Array Value) (n:Nat),K.lookup a=some o/\o.cls=.type "list"/\o.dict=none/\o.data=.seq its n/\its.size<=sizeLine/\Vals xs its.toList
def SqT(K:PySem.W.Frag)(H:Hp)(a:Addr)(xs:List V):Prop :=
 Rd H a (.tup xs)\/
  ∃(o:Obj) (its:Array Value) (n:Nat),K.lookup a=some o/\o.cls=.type "tuple"/\o.data=.seq its n/\its.size<=sizeLine/\Vals xs its.toList
def absV:Value->Option V
 | .none=>some .non
 | .bool b=>some (.bl b)
 | .int i _=>some (.int i)
 | .str x _=>some (.str x)
 | .bytes b _=>some (.byt b)
 | .float b _=>some (.flt b)
 | .ref a=>some (.ref a)
 | .type n=>some (.ty n)
 | _=>none
theorem RelV.abs{x:V}{u:Value}(r:RelV x u):absV u=some x:=by
 cases x with
 | non=>cases r;rfl
 | bl _=>cases r;rfl
 | int _=>obtain⟨t,rfl⟩:=r;rfl
 | str _=>obtain⟨t,rfl⟩:=r;rfl
 | byt _=>obtain⟨t,rfl⟩:=r;rfl
 | flt _=>obtain⟨t,rfl⟩:=r;rfl
 | ref _=>cases r;rfl
 | ty _=>cases r;rfl
theorem RelV.inj{x y:V}{u:Value}(r:RelV x u)(q:RelV y u):x=y:=Option.some.inj (r.abs.symm.trans q.abs)
theorem Vals.inj{xs ys:List V}{us:List Value}(a:Vals xs us)(b:Vals ys us):xs=ys:=by
 induction a generalizing ys with
 | nil=>cases b;rfl
 | cons r t ih =>
  cases b with
  | cons r' t'=>rw[r.inj r',ih t']
section
variable{X:Cx}{pins:List (Addr×Obj)}{σ:St}{H:Hp}{s:Shared}{a:Addr}{xs ys:List V}
theorem SqL.of{K:PySem.W.Frag}(h:H a=some (.lst xs)):SqL K H a xs:=.inl (.inl h)
theorem SqT.of{K:PySem.W.Frag}(h:H a=some (.tup xs)):SqT K H a xs:=.inl (.inl h)
theorem Inv.list(I:Inv X pins σ H s)(h:SqL X.K H a xs):∃its:List Value,Vals xs its/\PlainL s.heap a its.toArray/\xs.length<=sizeLine:=by
 rcases h with h | ⟨o,its,n,hk,hc,hd,hs,hz,r⟩
 ·obtain⟨z,its,n,r,e⟩:=h.ok I.hok
  exact⟨its,r,⟨_,n,e,rfl,rfl,rfl⟩,z⟩
 ·refine⟨its.toList,r,⟨o,n,I.kIn a o hk,hc,hd,by simpa using hs⟩,?_⟩
  have e:=r.length
  simp only[Array.length_toList] at e
  omega
theorem Inv.tuple(I:Inv X pins σ H s)(h:SqT X.K H a xs):∃its:List Value,Vals xs its/\IsTup s.heap a its.toArray/\xs.length<=sizeLine:=by
 rcases h with h | ⟨o,its,n,hk,hc,hs,hz,r⟩
 ·obtain⟨z,its,r,p⟩:=h.ok I.hok
  exact⟨its,r,p,z⟩
 ·refine⟨its.toList,r,⟨o,I.kIn a o hk,hc,n,by simpa using hs⟩,?_⟩
  have e:=r.length
  simp only[Array.length_toList] at e
  omega
theorem Inv.list_inj(I:Inv X pins σ H s)(h:SqL X.K H a xs)(h':SqL X.K H a ys):xs=ys:=by
 obtain⟨its,r,⟨o,n,e,_,_,d⟩,_⟩:=I.list h
 obtain⟨its',r',⟨o',n',e',_,_,d'⟩,_⟩:=I.list h'
 rw[e] at e';cases e'
 rw[d] at d'
 injection d' with d1 _
 have:its=its':=by simpa using congrArg Array.toList d1
 subst this
 exact r.inj r'
end
abbrev Cx.wish(X:Cx)(E:Value->Shared->Prop):Cx:={X with xe:=E}
abbrev Cx.nox(X:Cx):Cx:=X.wish fun _ _=>False
theorem Cx.Ok.wish{X:Cx}(ok:X.Ok)(E:Value->Shared->Prop):(X.wish E).Ok :=
 ⟨ok.mod,ok.kind,ok.glob,ok.blt,ok.above,ok.inj,ok.has,ok.cab,ok.hd,ok.frames,ok.stk,ok.exf,ok.bs,ok.bsz,ok.noex,ok.exfs,ok.funs,ok.frf⟩
theorem Cx.Ok.unwish{X:Cx}{E:Value->Shared->Prop}(ok:(X.wish E).Ok):X.Ok :=
 ⟨ok.mod,ok.kind,ok.glob,ok.blt,ok.above,ok.inj,ok.has,ok.cab,ok.hd,ok.frames,ok.stk,ok.exf,ok.bs,ok.bsz,ok.noex,ok.exfs,ok.funs,ok.frf⟩
section
variable{X:Cx}{pins:List (Addr×Obj)}{σ:St}{H:Hp}{s:Shared}{E:Value->Shared->Prop}
theorem Inv.wish(I:Inv X pins σ H s)(E:Value->Shared->Prop):Inv (X.wish E) pins σ H s:=⟨I.ok.wish E,I.os,I.bare,I.base,I.loc,I.cell,I.free,I.freeC,I.pin,I.hok,I.len⟩
theorem Inv.unwish(I:Inv (X.wish E) pins σ H s):Inv X pins σ H s:=⟨I.ok.unwish,I.os,I.bare,I.base,I.loc,I.cell,I.free,I.freeC,I.pin,I.hok,I.len⟩
theorem SP.unwish{D:Ends}{f:Flow}{s':Shared}(h:SP (X.wish E) pins D f s'):SP X pins D f s':=by
 cases f with
 | next=>obtain⟨σ',H',I,q⟩:=h;exact⟨σ',H',I.unwish,q⟩
 | brk=>obtain⟨σ',H',I,q⟩:=h;exact⟨σ',H',I.unwish,q⟩
 | cont=>obtain⟨σ',H',I,q⟩:=h;exact⟨σ',H',I.unwish,q⟩
 | ret u=>obtain⟨v,σ',H',I,r,q⟩:=h;exact⟨v,σ',H',I.unwish,r,q⟩
theorem PSs.nox{st:List Stmt}{t:TS}(h:PSs X.nox st t):PSs X st t:=fun pins s σ H D I hw =>
 wpAny_mono (h pins s σ H D (I.wish _) hw) (fun _ _ q=>q.unwish) fun _ _ z=>False.elim z
end
section
variable{X:Cx}{st:Stmt}{rest:List Stmt}{t u:TS}{e:Expr}{te:TE}{pos:Pos}
def tNext:TS:=fun D σ H=>D.nx σ H
def tSeq(t u:TS):TS:=fun D σ H=>t {D with nx:=u D} σ H
theorem w_:PSs X [] tNext:=fun _ _ σ H _ I h=>wpAny_execs_nil ⟨σ,H,I,h⟩
theorem b_(h1:PS X st t)(h2:PSs X rest u):PSs X (st::rest) (tSeq t u):=by
 intro pins s σ H D I h
 refine wpAny_execs_cons (thn (h1 pins s σ H {D with nx:=u D} I h) fun f s1 q=>?_)
 cases f with
 | next =>
  obtain⟨σ',H',I',q⟩:=q
  exact h2 pins s1 σ' H' D I' q
 | ret v=>exact q
 | brk=>exact q
 | cont=>exact q
theorem g_(h1:PS X st t):PSs X [st] t:=by
 intro pins s σ H D I h
 refine wpAny_execs_cons (thn (h1 pins s σ H D I h) fun f s1 q=>?_)
 cases f with
 | next=>exact wpAny_execs_nil q
 | ret v=>exact q
 | brk=>exact q
 | cont=>exact q
theorem Inv.quiet{pins:List (Addr×Obj)}{σ:St}{H:Hp}{s:Shared}(I:Inv X pins σ H s):interactive X.env=false:=by simp[interactive,I.ok.kind]
def tDrop(te:TE):TS:=fun D σ H=>te σ H fun _ H1=>D.nx σ H1
theorem I_(he:PE X e te)(hs:swapsWith e none pos.line X.env=pure false:=by rfl):PS X (.Expr e pos) (tDrop te):=by
 intro pins s σ H D I h
 exact wpAny_Expr_any (thn (he pins s σ H _ I h) fun v s1 ⟨x,H1,I1,r1,q1⟩=>⟨σ,H1,I1,q1⟩) I.quiet hs
def tRet(te:TE):TS:=fun D σ H=>te σ H D.rt
theorem q_(he:PE X e te):PS X (.Return (some e) pos) (tRet te):=by
 intro pins s σ H D I h
 exact wpAny_Return_some (thn (he pins s σ H _ I h) fun v s1 ⟨x,H1,I1,r1,q1⟩=>⟨x,σ,H1,I1,r1,q1⟩)
def tIfS(c:TT)(t u:TS):TS:=fun D σ H=>c σ H fun b H1=>if b=true then t D σ H1 else u D σ H1
theorem W_{c:Expr}{a b:List Stmt}{tc:TT}(hc:PT X c tc)(ha:PSs X a t)(hb:PSs X b u):PS X (.If c a b pos) (tIfS tc t u):=by
 intro pins s σ H D I h
 refine wpAny_If (thn (hc pins s σ H _ I h) fun d s1 ⟨H1,I1,q1⟩=>?_)
 cases d with
 | true=>exact ha pins s1 σ H1 D I1 q1
 | false=>exact hb pins s1 σ H1 D I1 q1
def oz_:TS:=fun _ _ _=>False
theorem aM_{sts:List Stmt}:PSs X sts oz_:=fun _ _ _ _ _ _ h=>h.elim
end
abbrev TG:=V->St->Hp->(St->Hp->Prop)->Prop
abbrev TGs:=List V->St->Hp->(St->Hp->Prop)->Prop
def PG(X:Cx)(target:Expr)(t:TG):Prop :=
 ∀(pins:List (Addr×Obj)) (s:Shared) (σ:St) (H:Hp) (v:V) (u:Value) (Q:St->Hp->Prop),Inv X pins σ H s->RelV v u->t v σ H Q->
  wpAny (model X.prog X.w) X.A (assign target X.env u) (fun _ s'=>∃ σ' H',Inv X pins σ' H' s'/\Q σ' H') X.xe s
def PGs(X:Cx)(ts:List Expr)(t:TGs):Prop :=
 ∀(pins:List (Addr×Obj)) (s:Shared) (σ:St) (H:Hp) (vs:List V) (us:List Value) (Q:St->Hp->Prop),Inv X pins σ H s->Vals vs us->t vs σ H Q->
  wpAny (model X.prog X.w) X.A (assignInOrder ((assignEach ts X.env).map (·.2)) us) (fun _ s'=>∃ σ' H',Inv X pins σ' H' s'/\Q σ' H') X.xe s
abbrev TSet:=V->V->V->Hp->(Hp->Prop)->Prop
def PSet(X:Cx)(t:TSet):Prop :=
 ∀(pins:List (Addr×Obj)) (s:Shared) (σ:St) (H:Hp) (o i v:V) (ov iv u:Value) (Q:Hp->Prop),Inv X pins σ H s->RelV o ov->RelV i iv->RelV v u->t o i v H Q->
  wpAny (model X.prog X.w) X.A (setItem ov iv u) (fun _ s'=>∃H',Inv X pins σ H' s'/\Q H') X.xe s
abbrev TIp:=V->V->Hp->VK->Prop
def PIp(X:Cx)(op:Operator)(t:TIp):Prop :=
 ∀(pins:List (Addr×Obj)) (s:Shared) (σ:St) (H:Hp) (x y:V) (v u:Value) (Q:VK),Inv X pins σ H s->RelV x v->RelV y u->t x y H Q->
  wpAny (model X.prog X.w) X.A (inplaceOp op v u) (EP X pins σ Q) X.xe s
section
variable{X:Cx}{pos:Pos}
def gName(i:Nat):TG:=fun v σ H Q=>Q (σ.set i (some v)) H
theorem j_{i:Nat}{x:Str}(hN:X.N.Nodup)(hi:X.N[i]?=some x)(hx:Loc X.env.scope x)(hf:X.fn x=true\/X.env.scope.names.lookup x=some .local:=by first | exact .inl rfl | exact .inr rfl | assumption):PG X (.Name x pos) (gName i):=by
 intro pins s σ H v u Q I r h
 exact wpAny_assign_Name (bs_ I hN hi hx r (fun s' I'=>⟨_,H,I',h⟩) hf)
def gNil:TGs:=fun vs σ H Q=>vs=[]/\Q σ H
def gCons(t:TG)(u:TGs):TGs:=fun vs σ H Q=>∃v r,vs=v::r/\t v σ H fun σ' H'=>u r σ' H' Q
theorem P_:PGs X [] gNil:=by
 intro pins s σ H vs us Q I r h
 obtain⟨e,h⟩:=h
 subst e
 cases r
 exact assignInOrder_nil ⟨σ,H,I,h⟩
theorem n_{e:Expr}{es:List Expr}{t:TG}{u:TGs}(h1:PG X e t)(h2:PGs X es u)
  (hs:(assignEach (e::es) X.env).map (·.2)=assign e X.env::(assignEach es X.env).map (·.2):=by rfl):PGs X (e::es) (gCons t u):=by
 intro pins s σ H vs us Q I r h
 obtain⟨v,vr,e1,h⟩:=h
 subst e1
 cases r with
 | cons r rr =>
  rw[hs]
  refine assignInOrder_cons (thn (h1 pins s σ H _ _ _ I r h) fun _ s1 ⟨σ1,H1,I1,q1⟩=>?_)
  exact h2 pins s1 σ1 H1 _ _ Q I1 rr q1
def gTup(K:PySem.W.Frag)(n:Nat)(t:TGs):TG:=fun v σ H Q=>∃a xs,v=.ref a/\SqT K H a xs/\xs.length=n/\t xs σ H Q
theorem fl_{es:List Expr}{k:Nat}{t:TGs}{n:Nat}(hc:X.calm=true)(h:PGs X es t)
  (hn:(assignEach es X.env).length=n:=by rfl) (hst:(assignEach es X.env).findIdx? (·.1)=none:=by rfl):PG X (.Tuple es k pos) (gTup X.K n t):=by
 intro pins s σ H v u Q I r hw
 obtain⟨a,xs,e1,hq,hl,hw⟩:=hw
 subst e1
 cases r
 obtain⟨its,rv,ht,hz⟩:=I.tuple hq
 refine assign_Tuple_tuple (I.ok.hd hc) ht (by simp[hn,<-hl,rv.length]) hst fun h' hx=>?_
 have I1:Inv X pins σ H {s with heap:=h'}:=I.kept (t':=s.toks) fun b o e=>hx b o (Nat.ne_of_lt (Heap.lt_size e)) e
 exact h pins _ σ H xs _ Q I1 (by simpa using rv) hw
def gSub(to ti:TE)(t:TSet):TG:=fun v σ H Q=>to σ H fun o H1=>ti σ H1 fun i H2=>t o i v H2 fun H3=>Q σ H3
theorem mG_{o i:Expr}{to ti:TE}{t:TSet}(ho:PE X o to)(hi:PE X i ti)(hs:PSet X t)
  (ha:∀v,assign (.Subscript o i pos) X.env v=(do
   let ov <-holding [v] (eval o X.env)
   let iv <-holding [v,ov] (eval i X.env)
   standAt pos
   holding [v,ov,iv] (setItem ov iv v)
   release [v,ov,iv] []):=by intro _;rfl):PG X (.Subscript o i pos) (gSub to ti t):=by
 intro pins s σ H v u Q I r h
 rw[ha]
 refine wpAny_bind (wpAny_holding (thn (ho pins s σ H _ I h) fun ov s1 ⟨x,H1,I1,r1,q1⟩=>?_))
 refine wpAny_bind (wpAny_holding (thn (hi pins s1 σ H1 _ I1 q1) fun iv s2 ⟨y,H2,I2,r2,q2⟩=>?_))
 refine wpAny_bind (wpAny_standAt (wpAny_bind (wpAny_holding (thn (hs pins s2 σ H2 x y v ov iv u _ I2 r1 r2 r q2) fun _ s3 ⟨H3,I3,q3⟩=>?_))))
 exact wpAny_release ⟨σ,H3,I3,q3⟩
def tAsg(te:TE)(g:TG):TS:=fun D σ H=>te σ H fun x H1=>g x σ H1 D.nx
theorem bf_{tg e:Expr}{te:TE}{g:TG}(he:PE X e te)(hg:PG X tg g)(hs:swapsWithSole [tg] e pos.line X.env=pure false:=by rfl)(hw:swappedStores [tg] e X.env=pure none:=by rfl)
  (h1:(assignEach [tg] X.env).map (·.2)=[assign tg X.env]:=by rfl):PS X (.Assign [tg] e pos) (tAsg te g):=by
 intro pins s σ H D I h
 refine wpAny_Assign_stores (thn (he pins s σ H _ I h) fun v s1 ⟨x,H1,I1,r1,q1⟩=>?_) hs hw
 rw[h1]
 exact thn (hg pins s1 σ H1 x v _ I1 r1 q1) fun _ s2 q=>q
theorem i_{i:Nat}{x:Str}{e:Expr}{te:TE}{pos':Pos}(hN:X.N.Nodup)(hi:X.N[i]?=some x)(hx:Loc X.env.scope x)(he:PE X e te)(hs:swapsWith e (some (.Name x pos')) pos.line X.env=pure false:=by rfl)(hf:X.fn x=true\/X.env.scope.names.lookup x=some .local:=by first | exact .inl rfl | exact .inr rfl | assumption) :
  PS X (.Assign [.Name x pos'] e pos) (tAsg te (gName i)):=by
 intro pins s σ H D I h
 refine wpAny_Assign_Name (thn (he pins s σ H _ I h) fun v s1 ⟨y,H1,I1,r1,q1⟩=>?_) hs
 exact bs_ I1 hN hi hx r1 (fun s2 I2=>⟨_,H1,I2,q1⟩) hf
def tAug(i:Nat)(te:TE)(ti:TIp):TS:=fun D σ H=>∃x,σ[i]?=some (some x)/\te σ H fun y H1=>ti x y H1 fun z H2=>D.nx (σ.set i (some z)) H2
theorem oK_{i:Nat}{x:Str}{e:Expr}{te:TE}{op:Operator}{ti:TIp}{pos':Pos}(hN:X.N.Nodup)(hi:X.N[i]?=some x)(hx:Loc X.env.scope x)(he:PE X e te)(ho:PIp X op ti)(hf:X.fn x=true\/X.env.scope.names.lookup x=some .local:=by first | exact .inl rfl | exact .inr rfl | assumption) :
  PS X (.AugAssign (.Name x pos') op e pos) (tAug i te ti):=by
 intro pins s σ H D I h
 obtain⟨v,e1,h⟩:=h
 obtain⟨m,hn,hl⟩:=I.loc
 have vis:Vis X.env.scope x:=by rcases hx with k | k;exact .inl k;exact .inr (.inl k)
 obtain⟨u,r,l⟩:=hl i x v hi e1 vis
 refine wpAny_AugAssign_Name ?_
 have go:wpAny (model X.prog X.w) X.A (eval e X.env) (fun w s₂=>wpAny (model X.prog X.w) X.A (inplaceOp op u w) (fun r s₃=>wpAny (model X.prog X.w) X.A (storeName X.env x r) (fun _=>SP X pins D .next) X.xe s₃) X.xe s₂) X.xe s:=by
  refine thn (he pins s σ H _ I h) fun w s1 ⟨y,H1,I1,r1,q1⟩=>?_
  refine thn (ho pins s1 σ H1 v y u w _ I1 r r1 q1) fun z s2 ⟨zv,H2,I2,r2,q2⟩=>?_
  exact bs_ I2 hN hi hx r2 (fun s3 I3=>⟨_,H2,I3,q2⟩) hf
 rcases l with⟨hk,hm⟩ | ⟨hk,c,hc,hcell⟩
 ·exact wpAny_loadName_local I.ok.kind hk hn hm go
 ·rcases hk with hk | hk
  ·exact wpAny_loadName_cell I.ok.kind hk hc hcell go
  ·rcases hx with k | k
   ·have:X.env.scope.names.lookup x=some .free:=hk
    rw[k] at this;cases this
   ·have:X.env.scope.names.lookup x=some .free:=hk
    rw[k] at this;cases this
def ipI(f:Int->Int->Int):TIp:=fun x y H Q=>∃i j,x=.int i/\y=.int j/\Q (.int (f i j)) H
theorem pm_:PIp X .Add (ipI fun i j=>i+j):=by
 intro pins s σ H x y v u Q I r1 r2 h
 obtain⟨i,j,e1,e2,q⟩:=h
 subst e1;subst e2
 obtain⟨t,rfl⟩:=r1
 obtain⟨t',rfl⟩:=r2
 exact iadd_int ⟨.int _,H,I.tok _,⟨_,rfl⟩,q⟩
end
structure It where
 go:Nat->Hp->Prop
 yld:Nat->Hp->V->Hp->Prop
 stop:Nat->Hp->Prop
def FpOk(X:Cx)(pins:List (Addr×Obj))(H:Hp)(b:Addr):Prop :=
 H b=none/\b≠X.env.locals/\b∉X.fs/\(b∈X.ex\/X.s₀.heap.objs.size<=b)/\(∀x c,X.env.cells.lookup x=some c->c≠b)/\∀p∈X.pn++pins,p.1≠b
theorem Inv.fpOk{X:Cx}{pins:List (Addr×Obj)}{σ:St}{H H':Hp}{s:Shared}{b:Addr}(I:Inv X pins σ H s)(hb:s.heap.objs.size<=b)(hn:H' b=none):FpOk X pins H' b:=by
 refine⟨hn,Nat.ne_of_gt (Nat.lt_of_lt_of_le I.lt hb),I.nofs hb,.inr (Nat.le_trans I.sz hb),fun x c e z=>?_,fun p hp z=>?_⟩
 ·obtain⟨v,q⟩:=I.cell x c e
  exact absurd (Nat.lt_of_lt_of_le q.lt (by rw[z];exact hb)) (Nat.lt_irrefl _)
 ·exact absurd (Nat.lt_of_lt_of_le (Heap.lt_size (I.pin p hp).1) (by rw[z];exact hb)) (Nat.lt_irrefl _)
structure Turn(P:Program)(w:World)(K:PySem.W.Frag)(tg:Expr)(J:It)(fp:List Addr)(it:Addr)(tn:Nat->Heap->Prop):Prop where
 mem:it∈fp
 obj:∀i h,tn i h->∀b∈fp,∃o,h.get? b=some o/\∀v,o.data≠.cell v
 keep:∀i h h',tn i h->(∀b∈fp,∀o,h.get? b=some o->h'.get? b=some o)->tn i h'
 item:∀(X:Cx),X.prog=P->X.w=w->X.K=K->X.calm=true->∀(i:Nat) (pins:List (Addr×Obj)) (s:Shared) (σ:St) (H:Hp) (E:Value->Shared->Prop),Inv X pins σ H s->(∀b∈fp,FpOk X pins H b)->tn i s.heap->J.go i H->
  wpAny (model P w) X.A (pyNext (.ref it)) (fun r s1=>∃u,r=some u/\
   wpAny (model P w) X.A (letOwnedTupleGo tg (.ref it) u) (fun _ s2=>∃x H',Inv X pins σ H' s2/\RelV x u/\J.yld i H x H'/\tn (i+1) s2.heap/\∀b∈fp,H' b=none) E s1) E s
 done:∀(X:Cx),X.prog=P->X.w=w->X.K=K->X.calm=true->∀(i:Nat) (pins:List (Addr×Obj)) (s:Shared) (σ:St) (H:Hp) (E:Value->Shared->Prop),Inv X pins σ H s->(∀b∈fp,FpOk X pins H b)->tn i s.heap->J.stop i H->
  wpAny (model P w) X.A (pyNext (.ref it)) (fun r s1=>r=none/\Inv X pins σ H s1) E s
 self:∀(A:Around) (i:Nat) (s:Shared) (Q:Value->Shared->Prop) (E:Value->Shared->Prop),tn i s.heap->Q (.ref it) s->wpAny (model P w) A (pyIter (.ref it)) Q E s
abbrev TI:=St->Hp->(It->Hp->Prop)->Prop
def PIE(X:Cx)(pins:List (Addr×Obj))(σ:St)(tg:Expr)(R:It->Hp->Prop)(itv:Value)(s2:Shared):Prop :=
 ∃(it:Addr) (fp:List Addr) (tn:Nat->Heap->Prop) (J:It) (H':Hp),itv=.ref it/\Inv X pins σ H' s2/\Turn X.prog X.w X.K tg J fp it tn/\tn 0 s2.heap/\(∀b∈fp,FpOk X pins H' b)/\R J H'
def PI(X:Cx)(tg iter:Expr)(wi:TI):Prop :=
 ∀(pins:List (Addr×Obj)) (s:Shared) (σ:St) (H:Hp) (R:It->Hp->Prop),Inv X pins σ H s->wi σ H R->
  wpAny (model X.prog X.w) X.A (eval iter X.env) (fun v s1=>wpAny (model X.prog X.w) X.A (pyIter v) (PIE X pins σ tg R) X.xe s1) X.xe s
theorem ma_{M:Model}{A:Around}{E:Value->Shared->Prop}{s:Shared}{tg:Expr}{it:Addr}{u:Value}{o:Obj}{n:String}{vs:Array Value}{Q:Unit->Shared->Prop}(ho:s.heap.get? it=some o)(hc:o.cls=.type n)(hd:o.data=.fields vs)
  (hn:["enumerate","zip","dict_itemiterator","dict_reverseitemiterator","odict_iterator","itertools.zip_longest","itertools.pairwise"].contains n=false) (hQ:Q () s):wpAny M A (letOwnedTupleGo tg (.ref it) u) Q E s:=by
 unfold letOwnedTupleGo
 cases tg <;> first
  | exact wpAny_pure hQ
  | (cases u <;> first
    | exact wpAny_pure hQ
    | (refine wpAny_bind (wpAny_load ho ?_)
       rw[hc,hd]
       show wpAny M A (if (["enumerate","zip","dict_itemiterator","dict_reverseitemiterator","odict_iterator","itertools.zip_longest","itertools.pairwise"].contains n&&vs[0]?==some (rawInt _))=true then _ else _) Q E s
       rw[if_neg (by intro h;rw[hn,Bool.false_and] at h;cases h)]
       exact wpAny_pure hQ))
def Itl(K:PySem.W.Frag)(a:Addr):It :=
 ⟨fun i H=>∃xs x,SqL K H a xs/\xs[i]?=some x,fun i H x H'=>H'=H/\∀xs,SqL K H a xs->xs[i]?=some x,fun i H=>∃xs,SqL K H a xs/\xs.length<=i⟩
def Itr(lo:Int)(n:Nat):It:=⟨fun i _=>i<n,fun i H x H'=>H'=H/\x=.int (lo+i),fun i _=>n<=i⟩
theorem jc_{P:Program}{w:World}{K:PySem.W.Frag}{tg:Expr}(a it:Addr):Turn P w K tg (Itl K a) [it] it (fun i h=>h.IsListIter it a i) where
 mem:=by simp
 obj:=fun i h st b hb=>by
  have e:b=it:=by simpa using hb
  subst e
  obtain⟨o,e,c,d⟩:=st
  exact⟨o,e,fun v z=>by rw[d] at z;cases z⟩
 keep:=fun i h h' st k=>st.at fun o e=>k it (by simp) o e
 item:=by
  intro X hP hw hK hc i pins s σ H E I hf st hg
  subst hP hw hK
  obtain⟨xs,x,hq,hx⟩:=hg
  obtain⟨its,rv,p,hz⟩:=I.list hq
  obtain⟨u,hu,ru⟩:=rv.get hx
  obtain⟨f0,f1,f2,f3,f4,f5⟩:=hf it (by simp)
  refine wpAny_pyNext_list_item st p.isList (x:=u) (by simpa using hu) fun h' st' sb=>?_
  have I1:Inv X pins σ H {s with heap:=h'}:=I.turned (t':=s.toks) (fun b o hb e=>(sb.2 b hb).trans e) f0 f1 f3 f4 f5
  obtain⟨o,e,c,d⟩:=id st'
  exact⟨u,rfl,ma_ (s:={s with heap:=h'}) e c d (by decide) ⟨x,H,I1,ru,⟨rfl,fun ys hy=>by rw[I.list_inj hy hq];exact hx⟩,st',fun b hb=>(hf b hb).1⟩⟩
 done:=by
  intro X hP hw hK hc i pins s σ H E I hf st hg
  subst hP hw hK
  obtain⟨xs,hq,hx⟩:=hg
  obtain⟨its,rv,p,hz⟩:=I.list hq
  obtain⟨f0,f1,f2,f3,f4,f5⟩:=hf it (by simp)
  have hl:=rv.length
  exact wpAny_pyNext_list_end (I.ok.hd hc) st p.isList (by simp;omega) fun h' eb=>⟨rfl,I.turned (t':=s.toks) (fun b o hb e=>eb b o hb e) f0 f1 f3 f4 f5⟩
 self:=fun _ _ _ _ _ st h=>wpAny_pyIter_listiter st h
theorem dp_{P:Program}{w:World}{K:PySem.W.Frag}{tg:Expr}(it:Addr)(lo:Int)(n:Nat):Turn P w K tg (Itr lo n) [it] it (fun i h=>IsRangeIter h it (lo+(i:Nat)*1) ((n:Int)-(i:Nat)) 1) where
 mem:=by simp
 obj:=fun i h st b hb=>by
  have e:b=it:=by simpa using hb
  subst e
  exact⟨_,st,fun v z=>by
   have z':Data.fields _=Data.cell v:=z
   cases z'⟩
 keep:=fun i h h' st k=>k it (by simp) _ st
 item:=by
  intro X hP hw hK hc i pins s σ H E I hf st hg
  subst hP hw hK
  obtain⟨f0,f1,f2,f3,f4,f5⟩:=hf it (by simp)
  have W:=Walks.range (prog:=X.prog) (w:=X.w) (I.ok.hd hc) it lo 1 n
  refine W.item i s _ _ hg st fun v h' tk hv st' kk=>?_
  obtain⟨t,rfl⟩:=hv
  have I1:Inv X pins σ H {s with heap:=h',toks:=tk}:=I.turned (fun b o hb e=>kk b o (by simpa using hb) e) f0 f1 f3 f4 f5
  refine⟨_,rfl,ma_ (s:={s with heap:=h',toks:=tk}) (n:="range_iterator") st' rfl rfl (by decide) ⟨.int (lo+i),H,I1,⟨t,?_⟩,⟨rfl,rfl⟩,st',fun b hb=>(hf b hb).1⟩⟩
  rw[Int.mul_one]
 done:=by
  intro X hP hw hK hc i pins s σ H E I hf st hg
  subst hP hw hK
  obtain⟨f0,f1,f2,f3,f4,f5⟩:=hf it (by simp)
  exact wpAny_pyNext_range_end (I.ok.hd hc) st (by have:n<=i:=hg;omega) fun h' eb=>⟨rfl,I.turned (t':=s.toks) (fun b o hb e=>eb b o hb e) f0 f1 f3 f4 f5⟩
 self:=fun _ _ _ _ _ st h=>wpAny_pyIter_rangeiter st h
section
variable{X:Cx}{tg:Expr}
def iList(K:PySem.W.Frag)(tl:TE):TI:=fun σ H R=>tl σ H fun x H1=>∃a,x=.ref a/\(∃xs,SqL K H1 a xs)/\R (Itl K a) H1
theorem J_{l:Expr}{tl:TE}(hl:PE X l tl):PI X tg l (iList X.K tl):=by
 intro pins s σ H R I h
 refine thn (hl pins s σ H _ I h) fun v s1 ⟨x,H1,I1,r1,q1⟩=>?_
 obtain⟨a,e,⟨xs,hq⟩,q⟩:=q1
 subst e
 cases r1
 obtain⟨its,rv,p,hz⟩:=I1.list hq
 refine wpAny_pyIter_list p.isList ?_
 refine⟨s1.heap.objs.size,[s1.heap.objs.size],_,_,H1,rfl,I1.kept (t':=s1.toks) fun b o e=>Heap.get?_push_of_some _ e,jc_ a _,⟨_,Heap.get?_push_size _ rfl,rfl,rfl⟩,fun b hb=>?_,q⟩
 have e:b=s1.heap.objs.size:=by simpa using hb
 subst e
 exact I1.fpOk (Nat.le_refl _) (I1.hok.fresh (Nat.le_refl _))
theorem hB_{pins:List (Addr×Obj)}{σ:St}{H:Hp}{s:Shared}{R:It->Hp->Prop}{E:Value->Shared->Prop}{lo hi:Int}{t u v:Tok}{tk:Nat}(I:Inv X pins σ H s)(h1 : -(2 ^ 62)<=lo)(h2:lo<2 ^ 62)(h3 : -(2 ^ 62)<=hi)(h4:hi<2 ^ 62)
  (q:R (Itr lo (hi-lo).toNat) H):wpAny (model X.prog X.w) X.A (pyIter (.ref s.heap.objs.size)) (PIE X pins σ tg R) E {s with heap:=s.heap.push {cls:=.type "range",data:=.fields #[.int lo t,.int hi u,.int 1 v]},toks:=tk}:=by
 refine wpAny_pyIter_range (IsRange.new ..) (small_one h1 h2 h3 h4) ?_
 have I1:Inv X pins σ H {s with heap:=s.heap.push {cls:=.type "range",data:=.fields #[.int lo t,.int hi u,.int 1 v]},toks:=tk}:=I.kept fun b o e=>Heap.get?_push_of_some _ e
 refine⟨(s.heap.push {cls:=.type "range",data:=.fields #[.int lo t,.int hi u,.int 1 v]}).objs.size,[(s.heap.push {cls:=.type "range",data:=.fields #[.int lo t,.int hi u,.int 1 v]}).objs.size],_,_,H,rfl,
  I1.kept (t':=tk) fun b o e=>Heap.get?_push_of_some _ e,dp_ _ lo (hi-lo).toNat,?_,fun b hb=>?_,q⟩
 ·have e1:lo+((0:Nat):Int)*1=lo:=by simp
  have e2:(((hi-lo).toNat:Nat):Int)-((0:Nat):Int)=Builtin.Range.rangeSize lo hi 1:=by rw[rangeSize_one];split <;> omega
  show IsRangeIter _ _ (lo+((0:Nat):Int)*1) ((((hi-lo).toNat:Nat):Int)-((0:Nat):Int)) 1
  rw[e1,e2]
  exact Heap.get?_push_size _ rfl
 ·have e:b=(s.heap.push {cls:=.type "range",data:=.fields #[.int lo t,.int hi u,.int 1 v]}).objs.size:=by simpa using hb
  subst e
  exact I1.fpOk (Nat.le_refl _) (I1.hok.fresh (Nat.le_refl _))
def iRng1(ta:TA):TI:=fun σ H R=>ta σ H fun vs H1=>∃j:Int,vs=[.int j]/\-(2 ^ 62)<=j/\j<2 ^ 62/\R (Itr 0 j.toNat) H1
def iRng2(ta:TA):TI:=fun σ H R=>ta σ H fun vs H1=>∃i j:Int,vs=[.int i,.int j]/\(-(2 ^ 62)<=i/\i<2 ^ 62/\-(2 ^ 62)<=j/\j<2 ^ 62)/\R (Itr i (j-i).toNat) H1
theorem y_{a:Expr}{ta:TA}{p pos:Pos}(hg:Gl X "range")(hm:X.mg "range"=none)(ha:PA X [a] ta)(hs:starEach [a] X.env=[(false,eval a X.env)]:=by rfl):PI X tg (.Call (.Name "range" p) [a] [] pos) (iRng1 ta):=by
 intro pins s σ H R I h
 refine Call_ (aP_ I hg hm boot_range (PyProof.Rows.callWith_type1 (thn (ha pos pins s σ H _ I h) fun us s1 ⟨vs,H1,I1,r1,q1⟩=>?_) hs rfl))
 obtain⟨j,e,q1,q2,q⟩:=q1
 subst e
 cases r1 with
 | cons r rr =>
  cases rr
  obtain⟨t,rfl⟩:=r
  exact call_range_1 (hB_ I1 (by omega) (by omega) q1 q2 (by simpa using q))
theorem jS_{a b:Expr}{ta:TA}{p pos:Pos}(hg:Gl X "range")(hm:X.mg "range"=none)(ha:PA X [a,b] ta)(hs:starEach [a,b] X.env=[(false,eval a X.env),(false,eval b X.env)]:=by rfl)(hs2:starEach [b] X.env=[(false,eval b X.env)]:=by rfl) :
  PI X tg (.Call (.Name "range" p) [a,b] [] pos) (iRng2 ta):=by
 intro pins s σ H R I h
 refine Call_ (aP_ I hg hm boot_range (PyProof.Rows.callWith_type1 (thn (ha pos pins s σ H _ I h) fun us s1 ⟨vs,H1,I1,r1,q1⟩=>?_) (by rw[hs,hs2]) (by rw[hs2];rfl)))
 obtain⟨i,j,e,⟨q1,q2,q3,q4⟩,q⟩:=q1
 subst e
 cases r1 with
 | cons r rr =>
  cases rr with
  | cons r' rr =>
   cases rr
   obtain⟨t,rfl⟩:=r
   obtain⟨t',rfl⟩:=r'
   exact call_range_2 (hB_ I1 q1 q2 q3 q4 q)
def tFor(wi:TI)(g:TG)(tb:TS):TS:=fun D σ H=>wi σ H fun J H1=>∃W:Nat->Nat->St->Hp->Prop,(∃m,W 0 m σ H1)/\∀i m σ H,W i m σ H->
 (J.stop i H/\D.nx σ H)\/(J.go i H/\∃N:St->Hp->Prop,(∀ σ' H',N σ' H'->∃m',m'<m/\W (i+1) m' σ' H')/\∀x H',J.yld i H x H'->g x σ H' fun σ2 H2=>tb {D with nx:=N,ct:=N,bk:=D.nx} σ2 H2)
def cq_(fp:List Addr)(h:Heap):List (Addr×Obj):=fp.filterMap fun b=>(h.get? b).map fun o=>(b,o)
theorem bz_{fp:List Addr}{h:Heap}{b:Addr}{o:Obj}(hb:b∈fp)(e:h.get? b=some o):(b,o)∈cq_ fp h:=List.mem_filterMap.mpr ⟨b,hb,by rw[e];rfl⟩
theorem fs_{fp:List Addr}{h:Heap}{p:Addr×Obj}(hp:p∈cq_ fp h):p.1∈fp/\h.get? p.1=some p.2:=by
 obtain⟨b,hb,e⟩:=List.mem_filterMap.mp hp
 cases q:h.get? b with
 | none=>rw[q] at e;cases e
 | some o =>
  rw[q] at e
  have e':(b,o)=p:=Option.some.inj e
  subst e'
  exact⟨hb,q⟩
theorem Inv.pinned{pins:List (Addr×Obj)}{σ:St}{H:Hp}{s:Shared}{fp:List Addr}(I:Inv X pins σ H s)(hf:∀b∈fp,FpOk X pins H b)(ho:∀b∈fp,∃o,s.heap.get? b=some o/\∀v,o.data≠.cell v):Inv X (pins++cq_ fp s.heap) σ H s :=
 I.pins_of fun p hp=>(List.mem_append.mp hp).elim (fun z=>I.pin p (List.mem_append_right _ z)) fun z=>by
  obtain⟨hb,e⟩:=fs_ z
  obtain⟨f0,f1,f2,_⟩:=hf p.1 hb
  obtain⟨o,e',d⟩:=ho p.1 hb
  rw[e] at e';cases e'
  exact⟨e,f0,f1,f2,d⟩
theorem Inv.unpinned{pins pl:List (Addr×Obj)}{σ:St}{H:Hp}{s:Shared}(I:Inv X (pins++pl) σ H s):Inv X pins σ H s:=I.pins_of fun p hp=>I.pin p (List.mem_append_right _ (List.mem_append_left _ hp))
theorem C_{iter:Expr}{body:List Stmt}{wi:TI}{g:TG}{tb:TS}{pos:Pos}(hp:PassesOwn (model X.prog X.w) X.A X.env X.xe)(hc:X.calm=true)(hi:PI X tg iter wi)(hg:PG X tg g)(hb:PSs X body tb)
  (hs:∀x,foldedSetIterable iter X.env x=pure x:=by intro _;rfl):PS X (.For tg iter body [] pos) (tFor wi g tb):=by
 intro pins s σ H D I h
 refine wpAny_For (thn (hi pins s σ H _ I h) fun v s1 h1=>thn h1 fun itv s2 h2=>?_) hs
 obtain⟨it,fp,tn,J,H2,e,I2,T,st2,f2,W,⟨m0,w0⟩,turn⟩:=h2
 subst e
 have stat:∀ {H':Hp},(∀b∈fp,H' b=none)->∀b∈fp,FpOk X pins H' b:=fun hn b hb=>⟨hn b hb,(f2 b hb).2⟩
 refine codeAny_forLoop_any (fun n s'=>∃i σ' H',Inv X pins σ' H' s'/\tn i s'.heap/\(∀b∈fp,H' b=none)/\W i n σ' H') ?_ m0 ⟨0,σ,H2,I2,st2,fun b hb=>(f2 b hb).1,w0⟩
 rintro n s3 ⟨i,σ3,H3,I3,st3,fr3,w3⟩
 rcases turn i n σ3 H3 w3 with⟨stop,qn⟩ | ⟨go,N,hN,step⟩
 ·refine wpAny_passesOwn hp (thn (T.done X rfl rfl rfl hc i pins s3 σ3 H3 X.xe I3 (stat fr3) st3 stop) fun r s4 ⟨hr,I4⟩=>?_)
  subst hr
  exact wpAny_execs_nil ⟨σ3,H3,I4,qn⟩
 ·refine wpAny_passesOwn hp (thn (T.item X rfl rfl rfl hc i pins s3 σ3 H3 X.xe I3 (stat fr3) st3 go) fun r s4 ⟨u,hr,h4⟩=>?_)
  subst hr
  refine wpAny_passesOwn hp (thn h4 fun _ s5 ⟨x,H5,I5,r5,y5,st5,fr5⟩=>?_)
  have I5':=I5.pinned (stat fr5) (T.obj _ _ st5)
  refine wpAny_passesOwn hp (thn (hg _ s5 σ3 H5 x u _ I5' r5 (step x H5 y5)) fun _ s6 ⟨σ6,H6,I6,q6⟩=>?_)
  refine wpAny_passesOwn hp (thn (hb _ s6 σ6 H6 _ I6 q6) fun f s7 q7=>?_)
  have again:∀ {σ7:St} {H7:Hp},Inv X (pins++cq_ fp s5.heap) σ7 H7 s7->N σ7 H7->∃m,m<n/\∃i σ' H',Inv X pins σ' H' s7/\tn i s7.heap/\(∀b∈fp,H' b=none)/\W i m σ' H':=fun {σ7 H7} I7 n7=>by
   obtain⟨m',hm,w7⟩:=hN σ7 H7 n7
   refine⟨m',hm,i+1,σ7,H7,I7.unpinned,T.keep _ _ _ st5 fun b hb o e=>(I7.pin (b,o) (List.mem_append_right _ (List.mem_append_right _ (bz_ hb e)))).1,fun b hb=>?_,w7⟩
   obtain⟨o,e,d⟩:=T.obj _ _ st5 b hb
   exact(I7.pin (b,o) (List.mem_append_right _ (List.mem_append_right _ (bz_ hb e)))).2.1
  cases f with
  | next=>obtain⟨σ7,H7,I7,n7⟩:=q7;exact again I7 n7
  | cont=>obtain⟨σ7,H7,I7,n7⟩:=q7;exact again I7 n7
  | brk=>obtain⟨σ7,H7,I7,q7⟩:=q7;exact⟨σ7,H7,I7.unpinned,q7⟩
  | ret v=>obtain⟨x7,σ7,H7,I7,r7,q7⟩:=q7;exact⟨x7,σ7,H7,I7.unpinned,r7,q7⟩
end
theorem Z_{K:PySem.W.Frag}{a:Addr}{xs:List V}{g:TG}{tb:TS}{D:Ends}{σ:St}{H:Hp}(Pv:Nat->St->Hp->Prop)(h0:Pv 0 σ H)(hl:∀i σ H,i<=xs.length->Pv i σ H->SqL K H a xs)
  (hs:∀i x σ H,xs[i]?=some x->Pv i σ H->g x σ H fun σ2 H2=>tb {D with nx:=Pv (i+1),ct:=Pv (i+1),bk:=D.nx} σ2 H2) (hd:∀ σ H,Pv xs.length σ H->D.nx σ H) :
  ∃W:Nat->Nat->St->Hp->Prop,(∃m,W 0 m σ H)/\∀i m σ H,W i m σ H->
   ((Itl K a).stop i H/\D.nx σ H)\/((Itl K a).go i H/\∃N:St->Hp->Prop,(∀ σ' H',N σ' H'->∃m',m'<m/\W (i+1) m' σ' H')/\∀x H',(Itl K a).yld i H x H'->g x σ H' fun σ2 H2=>tb {D with nx:=N,ct:=N,bk:=D.nx} σ2 H2):=by
 refine⟨fun i m σ H=>m=xs.length-i/\i<=xs.length/\Pv i σ H,⟨xs.length,by simp,Nat.zero_le _,h0⟩,?_⟩
 rintro i m σ H ⟨rfl,hi,p⟩
 have q:=hl i σ H hi p
 by_cases hlt:i<xs.length
 ·refine .inr ⟨⟨xs,xs[i],q,by simp[hlt]⟩,Pv (i+1),fun σ' H' p'=>⟨xs.length-(i+1),by omega,rfl,hlt,p'⟩,fun x H' y=>?_⟩
  obtain⟨e,y⟩:=y
  subst e
  exact hs i x σ _ (y xs q) p
 ·have e:i=xs.length:=by omega
  subst e
  exact .inl ⟨⟨xs,q,Nat.le_refl _⟩,hd σ H p⟩
theorem D_{lo:Int}{n:Nat}{g:TG}{tb:TS}{D:Ends}{σ:St}{H:Hp}(Pv:Nat->St->Hp->Prop)(h0:Pv 0 σ H)
  (hs:∀i σ H,i<n->Pv i σ H->g (.int (lo+i)) σ H fun σ2 H2=>tb {D with nx:=Pv (i+1),ct:=Pv (i+1),bk:=D.nx} σ2 H2) (hd:∀ σ H,Pv n σ H->D.nx σ H) :
  ∃W:Nat->Nat->St->Hp->Prop,(∃m,W 0 m σ H)/\∀i m σ H,W i m σ H->
   ((Itr lo n).stop i H/\D.nx σ H)\/((Itr lo n).go i H/\∃N:St->Hp->Prop,(∀ σ' H',N σ' H'->∃m',m'<m/\W (i+1) m' σ' H')/\∀x H',(Itr lo n).yld i H x H'->g x σ H' fun σ2 H2=>tb {D with nx:=N,ct:=N,bk:=D.nx} σ2 H2):=by
 refine⟨fun i m σ H=>m=n-i/\i<=n/\Pv i σ H,⟨n,by simp,Nat.zero_le _,h0⟩,?_⟩
 rintro i m σ H ⟨rfl,hi,p⟩
 by_cases hlt:i<n
 ·refine .inr ⟨hlt,Pv (i+1),fun σ' H' p'=>⟨n-(i+1),by omega,rfl,hlt,p'⟩,fun x H' y=>?_⟩
  obtain⟨e,y⟩:=y
  subst e y
  exact hs i σ _ hlt p
 ·have e:i=n:=by omega
  subst e
  exact .inl ⟨Nat.le_refl _,hd σ H p⟩
abbrev R2:=V->V->Hp->VK->Prop
def OpR(X:Cx)(f:Value->Value->Sem Value)(r:R2):Prop :=
 ∀(pins:List (Addr×Obj)) (s:Shared) (σ:St) (H:Hp) (x y:V) (v u:Value) (Q:VK),Inv X pins σ H s->RelV x v->RelV y u->r x y H Q->
  wpAny (model X.prog X.w) X.A (f v u) (EP X pins σ Q) X.xe s
def UnR(X:Cx)(f:Value->Sem Value)(r:V->Hp->VK->Prop):Prop :=
 ∀(pins:List (Addr×Obj)) (s:Shared) (σ:St) (H:Hp) (x:V) (v:Value) (Q:VK),Inv X pins σ H s->RelV x v->r x H Q->
  wpAny (model X.prog X.w) X.A (f v) (EP X pins σ Q) X.xe s
def CallR(X:Cx)(f:Value)(r:List V->Hp->VK->Prop):Prop :=
 ∀(pins:List (Addr×Obj)) (s:Shared) (σ:St) (H:Hp) (xs:List V) (us:List Value) (Q:VK),Inv X pins σ H s->Vals xs us->r xs H Q->
  wpAny (model X.prog X.w) X.A (call f us) (EP X pins σ Q) X.xe s
def tOp(r:R2)(ta tb:TE):TE:=fun σ H Q=>ta σ H fun x H1=>tb σ H1 fun y H2=>r x y H2 Q
def tUn(r:V->Hp->VK->Prop)(ta:TE):TE:=fun σ H Q=>ta σ H fun x H1=>r x H1 Q
def rI(C:Int->Int->Prop)(g:Int->Int->V):R2:=fun x y H Q=>∃i j,x=.int i/\y=.int j/\C i j/\Q (g i j) H
def rI0(g:Int->Int->V):R2:=fun x y H Q=>∃i j,x=.int i/\y=.int j/\Q (g i j) H
def rU(g:Int->V):V->Hp->VK->Prop:=fun x H Q=>∃i,x=.int i/\Q (g i) H
section
variable{X:Cx}{a b c:Expr}{ta tb tc:TE}{pos:Pos}
theorem binT(ha:PE X a ta)(hb:PE X b tb){pins:List (Addr×Obj)}{s:Shared}{σ:St}{H:Hp}{R:V->V->Hp->Prop}(I:Inv X pins σ H s)
  (h:ta σ H fun x H1=>tb σ H1 fun y H2=>R x y H2) {Q:Value->Shared->Prop} {f:Value->Value->Sem Value}
  (hf:∀v u s2 x y H2,Inv X pins σ H2 s2->RelV x v->RelV y u->R x y H2->wpAny (model X.prog X.w) X.A (f v u) Q X.xe s2) :
  wpAny (model X.prog X.w) X.A (eval a X.env) (fun v s₁=>wpAny (model X.prog X.w) X.A (eval b X.env) (fun u s₂=>wpAny (model X.prog X.w) X.A (f v u) Q X.xe s₂) X.xe s₁) X.xe s:=by
 refine thn (ha pins s σ H _ I h) fun v s1 ⟨x,H1,I1,r1,q1⟩=>?_
 refine thn (hb pins s1 σ H1 _ I1 q1) fun u s2 ⟨y,H2,I2,r2,q2⟩=>?_
 exact hf v u s2 x y H2 I2 r1 r2 q2
theorem m_{op:Operator}{r:R2}(ho:OpR X (binaryOp op) r)(ha:PE X a ta)(hb:PE X b tb):PE X (.BinOp a op b pos) (tOp r ta tb):=by
 intro pins s σ H Q I h
 exact wpAny_BinOp (binT ha hb I h fun v u s2 x y H2 I2 rx ry q=>ho pins s2 σ H2 x y v u Q I2 rx ry q)
theorem eo_{op:UnaryOp}{r:V->Hp->VK->Prop}(ho:UnR X (unaryOp op) r)(ha:PE X a ta):PE X (.UnaryOp op a pos) (tUn r ta):=by
 intro pins s σ H Q I h
 exact UnaryOp_ (thn (ha pins s σ H _ I h) fun v s1 ⟨x,H1,I1,r1,q1⟩=>ho pins s1 σ H1 x v Q I1 r1 q1)
theorem opI{f:Value->Value->Sem Value}{C:Int->Int->Prop}{g:Int->Int->Int}
  (rule:∀(i j:Int) (t u:Tok) (s:Shared) (Q:Value->Shared->Prop) (E:Value->Shared->Prop),C i j->Q (.int (g i j) s.toks) {s with toks:=s.toks+1}->wpAny (model X.prog X.w) X.A (f (.int i t) (.int j u)) Q E s) :
  OpR X f (rI C fun i j=>.int (g i j)):=by
 intro pins s σ H x y v u Q I rx ry h
 obtain⟨i,j,rfl,rfl,hc,q⟩:=h
 obtain⟨t,rfl⟩:=rx
 obtain⟨t',rfl⟩:=ry
 exact rule i j t t' s _ _ hc ⟨.int (g i j),H,I.tok _,⟨_,rfl⟩,q⟩
theorem opI0{f:Value->Value->Sem Value}{g:Int->Int->Int}
  (rule:∀(i j:Int) (t u:Tok) (s:Shared) (Q:Value->Shared->Prop) (E:Value->Shared->Prop),Q (.int (g i j) s.toks) {s with toks:=s.toks+1}->wpAny (model X.prog X.w) X.A (f (.int i t) (.int j u)) Q E s) :
  OpR X f (rI0 fun i j=>.int (g i j)):=by
 intro pins s σ H x y v u Q I rx ry h
 obtain⟨i,j,rfl,rfl,q⟩:=h
 obtain⟨t,rfl⟩:=rx
 obtain⟨t',rfl⟩:=ry
 exact rule i j t t' s _ _ ⟨.int (g i j),H,I.tok _,⟨_,rfl⟩,q⟩
theorem opB0{f:Value->Value->Sem Value}{g:Int->Int->Bool}
  (rule:∀(i j:Int) (t u:Tok) (s:Shared) (Q:Value->Shared->Prop) (E:Value->Shared->Prop),Q (.bool (g i j)) s->wpAny (model X.prog X.w) X.A (f (.int i t) (.int j u)) Q E s) :
  OpR X f (rI0 fun i j=>.bl (g i j)):=by
 intro pins s σ H x y v u Q I rx ry h
 obtain⟨i,j,rfl,rfl,q⟩:=h
 obtain⟨t,rfl⟩:=rx
 obtain⟨t',rfl⟩:=ry
 exact rule i j t t' s _ _ ⟨.bl (g i j),H,I,rfl,q⟩
def CDiv(i j:Int):Prop:=0<j/\j<1073741824
def CPow(i j:Int):Prop:=0<=j/\j<=1000000/\i.natAbs<2 ^ 64
def CMul(i j:Int):Prop:=(-(2 ^ 64)<i/\i<2 ^ 64)\/(-(2 ^ 64)<j/\j<2 ^ 64)
theorem CMul.ok{i j:Int}(h:CMul i j):IntMulOk i j:=by
 rcases h with⟨h1,h2⟩ | ⟨h1,h2⟩
 ·exact .of_left (intBits_le_64 h1 h2)
 ·exact .of_right (intBits_le_64 h1 h2)
theorem r_:OpR X (binaryOp .Add) (rI0 fun i j=>.int (i+j)):=opI0 fun _ _ _ _ _ _ _ q=>add_int q
theorem R_:OpR X (binaryOp .Sub) (rI0 fun i j=>.int (i-j)):=opI0 fun _ _ _ _ _ _ _ q=>sub_int q
theorem H_:OpR X (binaryOp .Mult) (rI CMul fun i j=>.int (i*j)):=opI fun _ _ _ _ _ _ _ hc q=>mul_int q hc.ok
theorem eq_:OpR X (binaryOp .FloorDiv) (rI CDiv fun i j=>.int (i / j)):=opI fun i j _ _ _ _ _ hc q=>by
 have h1:(0:Int)<j:=hc.1
 have h2:j<1073741824:=hc.2
 exact floordiv_int (by omega) (by rw[Int.fdiv_eq_ediv_of_nonneg i (by omega)];exact q) (.inl (PyProof.noPylong_small (by omega)))
theorem aN_:OpR X (binaryOp .Mod) (rI (fun _ j=>0<j) fun i j=>.int (i % j)):=opI fun i j _ _ _ _ _ hc q=>by
 have h1:(0:Int)<j:=hc
 exact mod_int' (by omega) (by rw[Int.fmod_eq_emod_of_nonneg i (by omega)];exact q)
theorem fm_:OpR X (binaryOp .Pow) (rI CPow fun i j=>.int (i ^ j.toNat)):=opI fun _ _ _ _ _ _ _ hc q=>pow_int_small hc.1 hc.2.1 hc.2.2 q
theorem unI{f:Value->Sem Value}{g:Int->Int}
  (rule:∀(i:Int) (t:Tok) (s:Shared) (Q:Value->Shared->Prop) (E:Value->Shared->Prop),Q (.int (g i) s.toks) {s with toks:=s.toks+1}->wpAny (model X.prog X.w) X.A (f (.int i t)) Q E s) :
  UnR X f (rU fun i=>.int (g i)):=by
 intro pins s σ H x v Q I rx h
 obtain⟨i,rfl,q⟩:=h
 obtain⟨t,rfl⟩:=rx
 exact rule i t s _ _ ⟨.int (g i),H,I.tok _,⟨_,rfl⟩,q⟩
theorem bR_:UnR X (unaryOp .USub) (rU fun i=>.int (-i)):=unI fun _ _ _ _ _ q=>neg_int q
end
def scal:V->V->Bool
 | .non,.non=>true | .non,.int _=>true | .int _,.non=>true | .non,.bl _=>true | .bl _,.non=>true | .non,.str _=>true | .str _,.non=>true
 | .int _,.int _=>true | .bl _,.bl _=>true | .str _,.str _=>true | .byt _,.byt _=>true
 | .int _,.str _=>true | .str _,.int _=>true | .bl _,.str _=>true | .str _,.bl _=>true
 | _,_=>false
def rEq:R2:=fun x y H Q=>scal x y=true/\Q (.bl (decide (x=y))) H
def rNe:R2:=fun x y H Q=>scal x y=true/\Q (.bl (!decide (x=y))) H
theorem kP_{i j:Int}:decide (V.int i=V.int j)=(i==j):=by
 rw[Bool.eq_iff_iff]
 simp
theorem nb_{i j:Bool}:decide (V.bl i=V.bl j)=(i==j):=by
 rw[Bool.eq_iff_iff]
 simp
theorem kO_{i j:Str}:decide (V.str i=V.str j)=(i==j):=by
 rw[Bool.eq_iff_iff]
 simp
theorem kQ_{i j:Array UInt8}:decide (V.byt i=V.byt j)=(i.toList==j.toList):=by
 rw[Bool.eq_iff_iff]
 cases i
 cases j
 simp
section
variable{X:Cx}{a b c:Expr}{ta tb tc:TE}{pos:Pos}
theorem F_{pins:List (Addr×Obj)}{σ:St}{H:Hp}{s:Shared}{Q:VK}{k k':Bool}(I:Inv X pins σ H s)(q:Q (.bl k) H)(e:k=k'):EP X pins σ Q (.bool k') s:=by
 subst e
 exact⟨.bl k,H,I,rfl,q⟩
theorem cl_:OpR X (compareOp .Eq) rEq:=by
 intro pins s σ H x y v u Q I rx ry h
 obtain⟨hs,q⟩:=h
 cases x with
 | non =>
  cases rx
  cases y with
  | non=>cases ry;exact PySem.EqNone.eq_none_none (F_ I q (by simp))
  | bl j=>cases ry;exact PySem.EqNone.eq_none_bool (F_ I q (by simp))
  | int j=>obtain⟨t',rfl⟩:=ry;exact PySem.EqNone.eq_none_int (F_ I q (by simp))
  | str j=>obtain⟨t',rfl⟩:=ry;exact PySem.EqNone.eq_none_str (F_ I q (by simp))
  | _=>exact absurd (show false=true from hs) Bool.false_ne_true
 | bl i =>
  cases rx
  cases y with
  | non=>cases ry;exact PySem.EqNone.eq_bool_none (F_ I q (by simp))
  | bl j=>cases ry;exact eq_bool (F_ I q nb_)
  | str j=>obtain⟨t',rfl⟩:=ry;exact PySem.EqMixed.eq_bool_str (F_ I q (by simp))
  | _=>exact absurd (show false=true from hs) Bool.false_ne_true
 | int i =>
  obtain⟨t,rfl⟩:=rx
  cases y with
  | non=>cases ry;exact PySem.EqNone.eq_int_none (F_ I q (by simp))
  | int j=>obtain⟨t',rfl⟩:=ry;exact eq_int (F_ I q kP_)
  | str j=>obtain⟨t',rfl⟩:=ry;exact PySem.EqMixed.eq_int_str (F_ I q (by simp))
  | _=>exact absurd (show false=true from hs) Bool.false_ne_true
 | str i =>
  obtain⟨t,rfl⟩:=rx
  cases y with
  | non=>cases ry;exact PySem.EqNone.eq_str_none (F_ I q (by simp))
  | bl j=>cases ry;exact PySem.EqMixed.eq_str_bool (F_ I q (by simp))
  | int j=>obtain⟨t',rfl⟩:=ry;exact PySem.EqMixed.eq_str_int (F_ I q (by simp))
  | str j=>obtain⟨t',rfl⟩:=ry;exact eq_str (F_ I q kO_)
  | _=>exact absurd (show false=true from hs) Bool.false_ne_true
 | byt i =>
  obtain⟨t,rfl⟩:=rx
  cases y with
  | byt j=>obtain⟨t',rfl⟩:=ry;exact PySem.W.eq_bytes (F_ I q kQ_)
  | _=>exact absurd (show false=true from hs) Bool.false_ne_true
 | _=>cases y <;> exact absurd (show false=true from hs) Bool.false_ne_true
theorem nK_:OpR X (compareOp .NotEq) rNe:=by
 intro pins s σ H x y v u Q I rx ry h
 obtain⟨hs,q⟩:=h
 cases x with
 | non =>
  cases rx
  cases y with
  | non=>cases ry;exact PySem.EqNone.ne_none_none (F_ I q (by simp))
  | bl j=>cases ry;exact PySem.EqNone.ne_none_bool (F_ I q (by simp))
  | int j=>obtain⟨t',rfl⟩:=ry;exact PySem.EqNone.ne_none_int (F_ I q (by simp))
  | str j=>obtain⟨t',rfl⟩:=ry;exact PySem.EqNone.ne_none_str (F_ I q (by simp))
  | _=>exact absurd (show false=true from hs) Bool.false_ne_true
 | bl i =>
  cases rx
  cases y with
  | non=>cases ry;exact PySem.EqNone.ne_bool_none (F_ I q (by simp))
  | bl j=>cases ry;exact ne_bool (F_ I q (congrArg not nb_))
  | str j=>obtain⟨t',rfl⟩:=ry;exact PySem.EqMixed.ne_bool_str (F_ I q (by simp))
  | _=>exact absurd (show false=true from hs) Bool.false_ne_true
 | int i =>
  obtain⟨t,rfl⟩:=rx
  cases y with
  | non=>cases ry;exact PySem.EqNone.ne_int_none (F_ I q (by simp))
  | int j=>obtain⟨t',rfl⟩:=ry;exact ne_int (F_ I q (congrArg not kP_))
  | str j=>obtain⟨t',rfl⟩:=ry;exact PySem.EqMixed.ne_int_str (F_ I q (by simp))
  | _=>exact absurd (show false=true from hs) Bool.false_ne_true
 | str i =>
  obtain⟨t,rfl⟩:=rx
  cases y with
  | non=>cases ry;exact PySem.EqNone.ne_str_none (F_ I q (by simp))
  | bl j=>cases ry;exact PySem.EqMixed.ne_str_bool (F_ I q (by simp))
  | int j=>obtain⟨t',rfl⟩:=ry;exact PySem.EqMixed.ne_str_int (F_ I q (by simp))
  | str j=>obtain⟨t',rfl⟩:=ry;exact ne_str (F_ I q (congrArg not kO_))
  | _=>exact absurd (show false=true from hs) Bool.false_ne_true
 | byt i =>
  obtain⟨t,rfl⟩:=rx
  cases y with
  | byt j=>obtain⟨t',rfl⟩:=ry;exact PySem.W.ne_bytes (F_ I q (congrArg not kQ_))
  | _=>exact absurd (show false=true from hs) Bool.false_ne_true
 | _=>cases y <;> exact absurd (show false=true from hs) Bool.false_ne_true
theorem gA_:OpR X (compareOp .Lt) (rI0 fun i j=>.bl (decide (i<j))):=opB0 fun _ _ _ _ _ _ _ q=>lt_int q
theorem cu_:OpR X (compareOp .LtE) (rI0 fun i j=>.bl (decide (i<=j))):=opB0 fun _ _ _ _ _ _ _ q=>le_int q
theorem ir_:OpR X (compareOp .Gt) (rI0 fun i j=>.bl (decide (j<i))):=opB0 fun _ _ _ _ _ _ _ q=>gt_int q
theorem lD_:OpR X (compareOp .GtE) (rI0 fun i j=>.bl (decide (j<=i))):=opB0 fun _ _ _ _ _ _ _ q=>ge_int q
theorem mK_:OpR X (compareOp .Is) (fun x y H Q=>y=.non/\Q (.bl (decide (x=.non))) H):=by
 intro pins s σ H x y v u Q I rx ry h
 obtain⟨rfl,q⟩:=h
 cases ry
 refine is_none_gen (F_ I q ?_)
 cases x <;> first
  | (cases rx;rfl)
  | (obtain⟨t,rfl⟩:=rx;rfl)
theorem jZ_:OpR X (compareOp .IsNot) (fun x y H Q=>y=.non/\Q (.bl (!decide (x=.non))) H):=by
 intro pins s σ H x y v u Q I rx ry h
 obtain⟨rfl,q⟩:=h
 cases ry
 refine isnot_none_gen (F_ I q ?_)
 cases x <;> first
  | (cases rx;rfl)
  | (obtain⟨t,rfl⟩:=rx;rfl)
theorem nomark(b:Expr){op:CmpOp}(h:op≠.In:=by decide)(h2:op≠.NotIn:=by decide):behindInMarks op b=false:=by
 have e1:(op==CmpOp.In)=false:=by cases op <;> first | rfl | exact absurd rfl h
 have e2:(op==CmpOp.NotIn)=false:=by cases op <;> first | rfl | exact absurd rfl h2
 cases b <;> simp[behindInMarks,e1,e2]
theorem aw_{op:CmpOp}{r:R2}(ho:OpR X (compareOp op) r)(ha:PE X a ta)(hb:PE X b tb)(hm:behindInMarks op b=false):PE X (.Compare a [op] [b] pos) (tOp r ta tb):=by
 intro pins s σ H Q I h
 exact wpAny_Compare1 (binT ha hb I h fun v u s2 x y H2 I2 rx ry q=>ho pins s2 σ H2 x y v u Q I2 rx ry q) hm
def tTest(t:TE):TT:=fun σ H Q=>t σ H fun x H'=>∃k,x=.bl k/\Q k H'
theorem z_{op:CmpOp}{r:R2}(ho:OpR X (compareOp op) r)(ha:PE X a ta)(hb:PE X b tb)(hm:behindInMarks op b=false):PT X (.Compare a [op] [b] pos) (tTest (tOp r ta tb)):=by
 intro pins s σ H Q I h
 refine wpAny_isTrue_Compare1 (thn (ha pins s σ H _ I h) fun v s1 ⟨x,H1,I1,r1,q1⟩=>thn (hb pins s1 σ H1 _ I1 q1) fun u s2 ⟨y,H2,I2,r2,q2⟩ =>
  thn (ho pins s2 σ H2 x y v u _ I2 r1 r2 q2) fun c s3 ⟨z,H3,I3,r3,k,e,q3⟩=>?_) hm
 subst e
 cases r3
 exact wpAny_truthy_bool ⟨H3,I3,q3⟩
def mw_(r r':R2)(ta tb tc:TE):TE:=fun σ H Q=>ta σ H fun x H1=>tb σ H1 fun y H2=>r x y H2 fun z H3=>∃k,z=.bl k/\
 (if k=true then tc σ H3 fun w' H4=>r' y w' H4 Q else Q (.bl false) H3)
theorem hH_{op op':CmpOp}{r r':R2}(ho:OpR X (compareOp op) r)(ho':OpR X (compareOp op') r')(ha:PE X a ta)(hb:PE X b tb)(hc:PE X c tc)
  (hm:lastMarks [op,op'] [b,c]=false:=by with_unfolding_all rfl):PE X (.Compare a [op,op'] [b,c] pos) (mw_ r r' ta tb tc):=by
 intro pins s σ H Q I h
 refine Compare_chain (thn (ha pins s σ H _ I h) fun v s1 ⟨x,H1,I1,r1,q1⟩=>chain_link (thn (hb pins s1 σ H1 _ I1 q1) fun u s2 ⟨y,H2,I2,r2,q2⟩ =>
  thn (ho pins s2 σ H2 x y v u _ I2 r1 r2 q2) fun d s3 ⟨z,H3,I3,r3,k,e,q3⟩=>?_)) hm
 subst e
 cases r3
 refine wpAny_truthy_bool ?_
 cases k with
 | false=>exact ite_ff ⟨.bl false,H3,I3,rfl,q3⟩
 | true=>exact ite_tt (chain_last (thn (hc pins s3 σ H3 _ I3 q3) fun w' s4 ⟨z',H4,I4,r4,q4⟩=>ho' pins s4 σ H4 y z' u w' Q I4 r2 r4 q4))
theorem cB_{op op':CmpOp}{r r':R2}(ho:OpR X (compareOp op) r)(ho':OpR X (compareOp op') r')(ha:PE X a ta)(hb:PE X b tb)(hc:PE X c tc)
  (hm:lastMarks [op,op'] [b,c]=false:=by with_unfolding_all rfl):PT X (.Compare a [op,op'] [b,c] pos) (tTest (mw_ r r' ta tb tc)):=by
 intro pins s σ H Q I h
 refine isTrue_chain (thn (ha pins s σ H _ I h) fun v s1 ⟨x,H1,I1,r1,q1⟩=>test_link (thn (hb pins s1 σ H1 _ I1 q1) fun u s2 ⟨y,H2,I2,r2,q2⟩ =>
  thn (ho pins s2 σ H2 x y v u _ I2 r1 r2 q2) fun d s3 ⟨z,H3,I3,r3,k,e,q3⟩=>?_)) hm
 subst e
 cases r3
 refine wpAny_truthy_bool ?_
 cases k with
 | false =>
  obtain⟨k',e',q'⟩:=q3
  cases e'
  exact ite_ff ⟨H3,I3,q'⟩
 | true =>
  refine ite_tt (test_last (thn (hc pins s3 σ H3 _ I3 q3) fun w' s4 ⟨z',H4,I4,r4,q4⟩=>thn (ho' pins s4 σ H4 y z' u w' _ I4 r2 r4 q4) fun d' s5 ⟨z2,H5,I5,r5,k2,e2,q5⟩=>?_))
  subst e2
  cases r5
  exact wpAny_truthy_bool ⟨H5,I5,q5⟩
theorem line63:(sizeLine:Nat)<2 ^ 63:=by rw[sizeLine_eq];decide
theorem vals1{x:V}{us:List Value}(r:Vals [x] us):∃u,us=[u]/\RelV x u:=by
 cases r with
 | cons r1 r2=>cases r2;exact⟨_,rfl,r1⟩
theorem vals2{x y:V}{us:List Value}(r:Vals [x,y] us):∃u w',us=[u,w']/\RelV x u/\RelV y w':=by
 cases r with
 | cons r1 r2 =>
  cases r2 with
  | cons r3 r4=>cases r4;exact⟨_,_,rfl,r1,r3⟩
theorem mn_:CallR X (.builtin "abs") (fun xs H Q=>∃i,xs=[.int i]/\Q (.int (if i<0 then -i else i)) H):=by
 intro pins s σ H xs us Q I r h
 obtain⟨i,rfl,q⟩:=h
 obtain⟨u,rfl,t,rfl⟩:=vals1 r
 exact call_abs_int fun u tk=>⟨.int (if i<0 then -i else i),H,I.tok _,⟨_,rfl⟩,q⟩
theorem di_(hc:X.calm=true):CallR X (.builtin "max") (fun xs H Q=>∃i j,xs=[.int i,.int j]/\Q (.int (if j>i then j else i)) H):=by
 intro pins s σ H xs us Q I r h
 obtain⟨i,j,rfl,q⟩:=h
 obtain⟨u,w',rfl,⟨t,rfl⟩,⟨t',rfl⟩⟩:=vals2 r
 refine max_two_ints (I.ok.hd hc) fun h' tk k=>⟨_,H,I.kept k,?_,q⟩
 by_cases hj:j>i
 ·rw[if_pos hj,if_pos hj];exact⟨_,rfl⟩
 ·rw[if_neg hj,if_neg hj];exact⟨_,rfl⟩
theorem cf_(hc:X.calm=true):CallR X (.builtin "min") (fun xs H Q=>∃i j,xs=[.int i,.int j]/\Q (.int (if j<i then j else i)) H):=by
 intro pins s σ H xs us Q I r h
 obtain⟨i,j,rfl,q⟩:=h
 obtain⟨u,w',rfl,⟨t,rfl⟩,⟨t',rfl⟩⟩:=vals2 r
 refine min_two_ints (I.ok.hd hc) fun h' tk k=>⟨_,H,I.kept k,?_,q⟩
 by_cases hj:j<i
 ·rw[if_pos hj,if_pos hj];exact⟨_,rfl⟩
 ·rw[if_neg hj,if_neg hj];exact⟨_,rfl⟩
theorem ax_:CallR X (.type "int") (fun xs H Q=>(∃i,xs=[.int i]/\Q (.int i) H)\/∃k,xs=[.bl k]/\Q (.int (if k then 1 else 0)) H):=by
 intro pins s σ H xs us Q I r h
 rcases h with⟨i,rfl,q⟩ | ⟨k,rfl,q⟩
 ·obtain⟨u,rfl,t,rfl⟩:=vals1 r
  exact call_int_int ⟨.int i,H,I,⟨_,rfl⟩,q⟩
 ·obtain⟨u,rfl,r1⟩:=vals1 r
  cases r1
  exact call_int_bool ⟨.int (if k then 1 else 0),H,I.tok _,⟨_,rfl⟩,q⟩
end
structure ObjM(h:Heap)(x dx C:Addr)(mA:Str->Option Value):Prop where
 obj:h.get? x=some (PySem.W.instObj C dx)
 ns:h.Ns1 dx mA
 ne:dx≠x
theorem km_{h:Heap}{dx:Addr}{mA:Str->Option Value}(n:h.Ns1 dx mA):∃od,h.get? dx=some od/\∀name,PySem.W.lookIn name od=some (mA name):=by
 obtain⟨o,es,ep,ho,hd,hk,_,hm⟩:=n
 refine⟨o,ho,fun name=>?_⟩
 have e:=hm name
 unfold nsFind findBy at e
 rw[<-Array.find?_toList] at e
 unfold PySem.W.lookIn
 rw[hd]
 dsimp only
 split
 ·rename_i y q
  rw[q] at e
  exact congrArg some e
 ·rename_i q
  rw[q] at e
  have a:es.toList.any (·.refKey)=false:=by
   rw[List.any_eq_false]
   intro y hy
   obtain⟨z,t,hkey⟩:=hk y (Array.mem_toList_iff.mp hy)
   simp[DictEntry.refKey,hkey]
  have a':¬ es.toList.any (·.refKey)=true:=by rw[a];exact Bool.false_ne_true
  rw[if_neg a']
  exact congrArg some e
theorem ObjM.look{h:Heap}{x dx C:Addr}{mA:Str->Option Value}(I:ObjM h x dx C mA):∃od,PySem.W.InstAt h x (PySem.W.instObj C dx) C (some od)/\∀name,PySem.W.lookIn name od=some (mA name) :=
 let ⟨od,ho,hl⟩:=km_ I.ns
 ⟨od,⟨I.obj,rfl,rfl,ho⟩,hl⟩
section
variable{prog:Program}{w:World}{A:Around}{E:Value->Shared->Prop}{s:Shared}{K:PySem.W.Frag}{x dx C f:Addr}{mA:Str->Option Value}{name:Str}{v:Value}
end
theorem RelO.some_of{v:V}{o:Option Value}(r:RelO (some v) o):∃u,o=some u/\RelV v u:=by
 cases o with
 | none=>exact(show False from r).elim
 | some u=>exact⟨u,rfl,r⟩
section
variable{P:Program}{w:World}{H H':Hp}{h h':Heap}{a C dx:Addr}{fs fs':List (Str×V)}
theorem oi_(hok:HOk P w H h)(e:H a=some (.ins C dx fs)):∃mA,ObjM h a dx C mA/\(∀f,RelO (fs.lookup f) (mA f))/\PySem.Within mA (fs.map (·.1))/\fs.length<=1000/\H dx=some (.own a):=by
 obtain⟨d,z,ne,ob,mA,n,r,q⟩:=(show ObjOk P w H h a (.ins C dx fs) from hok a _ e)
 exact⟨mA,⟨ob,n,ne⟩,r,q,z,d⟩
end
structure Cls(K:PySem.W.Frag)(C:Addr):Prop where
 pg:PySem.W.plainGet K C Str.empty=true
 hd:PySem.W.hasDictIn K C=true
 po:PySem.W.plainOver K C=true
 sa:PySem.W.findIn K (.ref C) "__setattr__"=some (some (.builtin "object.__setattr__"))
theorem Cls.get{K:PySem.W.Frag}{C:Addr}(c:Cls K C)(f:Str):PySem.W.plainGet K C f=true:=c.pg
section
variable{X:Cx}{pins:List (Addr×Obj)}{σ:St}{H:Hp}{s:Shared}{a C dx:Addr}{fs:List (Str×V)}{f:Str}{v:V}{A:Around}{E:Value->Shared->Prop}
end
section
variable{X:Cx}{o e value:Expr}{f:Str}{pos pos' tpos:Pos}{ta tv:TE}
end
section
variable{X:Cx}{pins:List (Addr×Obj)}{σ:St}{H:Hp}{s:Shared}{A:Around}{E:Value->Shared->Prop}{Q:Value->Shared->Prop}{c:Value}{b:Bool}
inductive TyOf(K:PySem.W.Frag)(H:Hp):V->Value->Prop where
 | non:TyOf K H .non (.type "NoneType")
 | bl (x:Bool):TyOf K H (.bl x) (.type "bool")
 | int (i:Int):TyOf K H (.int i) (.type "int")
 | str (x:Str):TyOf K H (.str x) (.type "str")
 | flt (x:UInt64):TyOf K H (.flt x) (.type "float")
 | lst {a:Addr} {xs:List V} (e:H a=some (.lst xs)):TyOf K H (.ref a) (.type "list")
 | frz {a:Addr} {o:Obj} {xs:List V} (e:H a=some (.frz o (.lst xs))):TyOf K H (.ref a) (.type "list")
 | tup {a:Addr} {xs:List V} (e:H a=some (.tup xs)):TyOf K H (.ref a) (.type "tuple")
 | dK {a:Addr} {kvs:List (Key×V)} (e:H a=some (.dK kvs)):TyOf K H (.ref a) (.type "dict")
 | dT {a:Addr} {kvs:List (List Key×V)} (e:H a=some (.dT kvs)):TyOf K H (.ref a) (.type "dict")
 | ins {a C dx:Addr} {fs:List (Str×V)} (e:H a=some (.ins C dx fs)) (cl:Cls K C) (ha:PySem.W.findIn K (.ref C) "__class__"=some (some (.builtin "object.__class__")))
   (hn:PySem.W.specialIn K (.builtin "object.__class__") "__get__"=some (some (.builtin "getset_descriptor.__get__"))) (htk:PySem.W.takesIn K (.builtin "object.__class__")=some true)
   (hm:PySem.W.mroIn K C (.type "object")=some true):TyOf K H (.ref a) (.ref C)
theorem ku_{x:V}{u t:Value}(I:Inv X pins σ H s)(rx:RelV x u)(ty:TyOf X.K H x t)(e:PySem.W.kitOne X.K t c=some b)(h:∀tk,Q (.bool b) {s with toks:=tk}) :
  wpAny (model X.prog X.w) A (call (.builtin "isinstance") [u,c]) Q E s:=by
 cases ty with
 | non=>cases (show u=Value.none from rx);exact PySem.W.kia_one PySem.W.kitx_none I.kIn True.intro e (fun z=>nomatch z) h
 | bl y=>cases (show u=Value.bool y from rx);exact PySem.W.kia_one PySem.W.kitx_bool I.kIn True.intro e (fun z=>nomatch z) h
 | int i=>obtain⟨t,q⟩:=(show ∃t,u=Value.int i t from rx);cases q;exact PySem.W.kia_one PySem.W.kitx_int I.kIn True.intro e (fun z=>nomatch z) h
 | str y=>obtain⟨t,q⟩:=(show ∃t,u=Value.str y t from rx);cases q;exact PySem.W.kia_one PySem.W.kitx_str I.kIn True.intro e (fun z=>nomatch z) h
 | flt y=>obtain⟨t,q⟩:=(show ∃t,u=Value.float y t from rx);cases q;exact PySem.W.kia_one PySem.W.kitx_float I.kIn True.intro e (fun z=>nomatch z) h
 | @lst a xs ea =>
  cases (show u=Value.ref a from rx)
  obtain⟨_,_,n,_,h1⟩:=(show ObjOk X.prog X.w H s.heap a (.lst xs) from I.hok a _ ea)
  exact PySem.W.kia_one PySem.W.kitx_list I.kIn ⟨_,h1,rfl⟩ e (fun z=>nomatch z) h
 | @frz a ob xs ea =>
  cases (show u=Value.ref a from rx)
  obtain⟨_,_,_,n,_,h1⟩:=(show ObjOk X.prog X.w H s.heap a (.frz ob (.lst xs)) from I.hok a _ ea)
  exact PySem.W.kia_one PySem.W.kitx_list I.kIn ⟨_,h1,rfl⟩ e (fun z=>nomatch z) h
 | @tup a xs ea =>
  cases (show u=Value.ref a from rx)
  obtain⟨_,_,_,p⟩:=(show ObjOk X.prog X.w H s.heap a (.tup xs) from I.hok a _ ea)
  obtain⟨o,h1,h2,_⟩:=p
  exact PySem.W.kia_one PySem.W.kitx_tuple I.kIn ⟨o,h1,h2⟩ e (fun z=>nomatch z) h
 | @dK a kvs ea =>
  cases (show u=Value.ref a from rx)
  obtain⟨_,_,vs,_,p⟩:=(show ObjOk X.prog X.w H s.heap a (.dK kvs) from I.hok a _ ea)
  obtain⟨o,es,ep,h1,h2,_⟩:=p
  exact PySem.W.kia_one PySem.W.kitx_dict I.kIn ⟨o,h1,h2.1⟩ e (fun z=>nomatch z) h
 | @dT a kvs ea =>
  cases (show u=Value.ref a from rx)
  obtain⟨_,_,xs,_,o,es,ep,h1,h2,_⟩:=(show ObjOk X.prog X.w H s.heap a (.dT kvs) from I.hok a _ ea)
  exact PySem.W.kia_one PySem.W.kitx_dict I.kIn ⟨o,h1,h2.1⟩ e (fun z=>nomatch z) h
 | @ins a C dx fs ea cl ha hn htk hm =>
  cases (show u=Value.ref a from rx)
  obtain⟨mA,O,_⟩:=oi_ I.hok ea
  obtain⟨od,J,_⟩:=O.look
  exact PySem.W.kia_one (PySem.W.kitx_own (cl.get _) cl.hd ha hn htk hm) I.kIn J e (fun z=>nomatch z) h
end
structure Room(k:Nat)(A:Around):Prop where
 hd:A.handled=none
 dp:A.depth+3*k+5<recursionLimit
 un:A.units+16*k+200<cLine
 gd:A.guards=some []
theorem Room.mono{j k:Nat}{A:Around}(r:Room k A)(h:j<=k):Room j A:=⟨r.hd,by have:=r.dp;omega,by have:=r.un;omega,r.gd⟩
theorem Room.mo{j k:Nat}{A:Around}(r:Room k A)(h:j<=k:=by decide):Room j A:=r.mono h
theorem Room.deeper{k:Nat}{A:Around}(r:Room (k+1) A)(env:Env):Room k (A.deeper env) :=
 ⟨r.hd,by have:=r.dp;show A.depth+1+3*k+5<_;omega,by have:=r.un;show A.units+3+16*k+200<_;omega,r.gd⟩
theorem Room.depth{k:Nat}{A:Around}(r:Room k A):A.depth<recursionLimit:=by have:=r.dp;omega
theorem Room.units{k:Nat}{A:Around}(r:Room k A):A.units+64<cLine:=by have:=r.un;omega
def tNil:TA:=fun _ H Q=>Q [] H
def tCons(ta:TE)(tr:TA):TA:=fun σ H Q=>ta σ H fun x H1=>tr σ H1 fun xs H2=>Q (x::xs) H2
section
variable{X:Cx}{e:Expr}{es:List Expr}{te:TE}{t:TA}{pos:Pos}
theorem d_:PA X [] tNil:=fun _ _ _ _ H Q I h=>Calls.spliced_nil ⟨[],H,I,.nil,h⟩
theorem a_(ha:PE X e te)(hr:PA X es t)(hs:starEach (e::es) X.env=(false,eval e X.env)::starEach es X.env:=by rfl):PA X (e::es) (tCons te t):=by
 intro pos pins s σ H Q I h
 rw[hs]
 show wpAny _ _ (spliced ((false,eval e X.env)::backTo pos (starEach es X.env))) _ _ s
 refine Calls.spliced_cons (thn (ha pins s σ H _ I h) fun u s1 ⟨x,H1,I1,r1,q1⟩=>?_)
 exact thn (hr pos pins s1 σ H1 _ I1 q1) fun us s2 ⟨xs,H2,I2,r2,q2⟩=>⟨x::xs,H2,I2,.cons r1 r2,q2⟩
def tTup(t:TA):TE:=fun σ H Q=>t σ H fun xs H1=>xs.length<=sizeLine/\∀p,H1 p=none->Q (.ref p) (upd H1 p (.tup xs))
def tLst(t:TA):TE:=fun σ H Q=>t σ H fun xs H1=>xs.length<=sizeLine/\∀p,H1 p=none->Q (.ref p) (upd H1 p (.lst xs))
theorem bD_{x1}(h:PA X es t):PE X (.Tuple es x1 pos) (tTup t):=by
 intro pins s σ H Q I hq
 refine wpAny_Tuple_spliced (thn (h pos pins s σ H _ I hq) fun us s1 ⟨xs,H1,I1,r,z,q⟩=>⟨by rw[<-r.length];exact z,?_⟩)
 have hf:H1 s1.heap.objs.size=none:=I1.hok.fresh (Nat.le_refl _)
 refine⟨.ref s1.heap.objs.size,upd H1 s1.heap.objs.size (.tup xs),I1.laid (t':=s1.toks) (fun b u e=>Heap.get?_push_of_some _ e) (Nat.le_refl _) ?_,rfl,q _ hf⟩
 exact⟨z,us,r,⟨_,Heap.get?_push_size _ rfl,rfl,_,rfl⟩⟩
theorem s_(h:PA X es t):PE X (.List es pos) (tLst t):=by
 intro pins s σ H Q I hq
 refine wpAny_List_spliced (thn (h pos pins s σ H _ I hq) fun us s1 ⟨xs,H1,I1,r,z,q⟩=>⟨by rw[<-r.length];exact z,?_⟩)
 have hf:H1 s1.heap.objs.size=none:=I1.hok.fresh (Nat.le_refl _)
 refine⟨.ref s1.heap.objs.size,upd H1 s1.heap.objs.size (.lst xs),I1.laid (t':=s1.toks) (fun b u e=>Heap.get?_push_of_some _ e) (Nat.le_refl _) ?_,rfl,q _ hf⟩
 exact⟨z,us,0,r,Heap.get?_push_size _ rfl⟩
end
abbrev Sp:=List V->Hp->VK->XK->Prop
abbrev CXT:=List Env->Hp->Shared->XK->Value->Shared->Prop
structure Env0(P:Program)(w:World)(K:PySem.W.Frag)(mg:Str->Option Value)(base:Heap)(A:Around)(outer:List Env)(s:Shared)(H:Hp):Prop where
 frames:A.frames=some outer
 mod:Mod K mg base
 bs:∀b o,base.get? b=some o->s.heap.get? b=some o/\H b=none
 bsz:base.objs.size<=s.heap.objs.size
 funs:s.heap.FunFrames base outer
 frf:∀b∈frs outer,H b=none
 hok:HOk P w H s.heap
 bare:AllBare s.gens
def CE(outer:List Env)(P:Program)(w:World)(H:Hp)(s:Shared)(Q:VK)(u:Value)(s':Shared):Prop :=
 ∃v H',s'.os=s.os/\AllBare s'.gens/\Un (frs outer) [] H H' s.heap s'.heap/\HOk P w H' s'.heap/\RelV v u/\Q v H'
def CR(CX:CXT)(outer:List Env)(P:Program)(w:World)(H:Hp)(s:Shared)(Q:VK)(E:XK)(r:Result)(s':Shared):Prop :=
 match r with
 | .ok (.ret u)=>CE outer P w H s Q u s'
 | .ok _=>False
 | .error e=>CX outer H s E e s'
structure FnOk(P:Program)(w:World)(K:PySem.W.Frag)(mg:Str->Option Value)(base:Heap)(CX:CXT)(k:Nat)(f:Addr)(fd:FuncData)(ps:List Str)(sp:Sp):Prop where
 len:∀vs H Q E,sp vs H Q E->vs.length=ps.length
 run:∀(A:Around) (outer:List Env) (s:Shared) (H:Hp) (args:Args) (us:List Value) (vs:List V) (Q:VK) (E:XK),Room k A->Env0 P w K mg base A outer s H->BindsTo s fd args (ps.zip us)->Vals vs us->sp vs H Q E->
  codeAny (model P w) A (.call (.ref f) args) (CR CX outer P w H s Q E) s
theorem FnOk.mono{P:Program}{w:World}{K:PySem.W.Frag}{mg:Str->Option Value}{base:Heap}{CX:CXT}{j k:Nat}{f:Addr}{fd:FuncData}{ps:List Str}{sp:Sp}(F:FnOk P w K mg base CX j f fd ps sp)(h:j<=k) :
  FnOk P w K mg base CX k f fd ps sp:=⟨F.len,fun A outer s H args us vs Q E hr=>F.run A outer s H args us vs Q E (hr.mono h)⟩
section
variable{X:Cx}{pins:List (Addr×Obj)}{σ:St}{H:Hp}{s s':Shared}
theorem Inv.env0(I:Inv X pins σ H s):Env0 X.prog X.w X.K X.mg X.base X.A X.stack s H :=
 ⟨I.ok.frames,I.ok.mod,I.bs,Nat.le_trans I.ok.bsz I.sz,I.stack,I.stkFree,I.hok,I.bare⟩
theorem Inv.after{Q:VK}{u:Value}(I:Inv X pins σ H s)(h:CE X.stack X.prog X.w H s Q u s'):EP X pins σ Q u s':=by
 obtain⟨v,H',os,bare,un,hok,r,q⟩:=h
 obtain⟨hh,g,d,t,os'⟩:=s'
 obtain rfl:os'=s.os:=os
 exact⟨v,H',I.call (h':=hh) (g':=g) (d':=d) (t':=t) (ch:=[]) un hok bare (fun b z=>absurd z (by simp)),r,q⟩
end
def tCall(sp:Sp)(dvs:List V)(E:XK)(t:TA):TE:=fun σ H Q=>t σ H fun vs H1=>sp (vs++dvs) H1 Q E
def Binds(K:PySem.W.Frag)(fd:FuncData)(ps:List Str)(ds:List Value):Prop :=
 ∀(s:Shared) (us:List Value),K.In s.heap->(us++ds).length=ps.length->BindsTo s fd ⟨us,[]⟩ (ps.zip (us++ds))
theorem Binds.all{K:PySem.W.Frag}{fd:FuncData}{ps:List Str}(h:∀us:List Value,us.length=ps.length->bindArgs fd ⟨us,[]⟩=pure (ps.zip us)):Binds K fd ps []:=fun s us _ hl=>by
 rw[List.append_nil] at hl⊢
 exact .of_eq (h us hl)
def Passes(CX:CXT)(X:Cx)(E:XK):Prop:=∀(pins:List (Addr×Obj)) (σ:St) (H:Hp) (s:Shared) (e:Value) (s':Shared),Inv X pins σ H s->CX X.stack H s E e s'->X.xe e s'
section
variable{X:Cx}{CX:CXT}{k:Nat}{f C:Addr}{fd:FuncData}{ps:List Str}{sp:Sp}{dvs:List V}{ds:List Value}{E:XK}{x m:Str}{p pos apos:Pos}{e o:Expr}{es:List Expr}{ta:TE}{t:TA}
theorem oH_{pins:List (Addr×Obj)}{σ:St}{H:Hp}{s:Shared}{Q:VK}{us:List Value}{vs:List V}(F:FnOk X.prog X.w X.K X.mg X.base CX k f fd ps sp)(hr:Room k X.A)(hb:Binds X.K fd ps ds)(hd:Vals dvs ds)(hx:Passes CX X E)
  (I:Inv X pins σ H s) (r:Vals vs us) (h:sp (vs++dvs) H Q E):wpAny (model X.prog X.w) X.A (call (.ref f) us) (EP X pins σ Q) X.xe s:=by
 have r2:Vals (vs++dvs) (us++ds):=r.append hd
 have hl:(us++ds).length=ps.length:=by rw[<-r2.length];exact F.len _ _ _ _ h
 refine wpAny_call (codeAny_mono (F.run X.A X.stack s H ⟨us,[]⟩ (us++ds) (vs++dvs) Q E hr I.env0 (hb s us I.kIn hl) r2 h) fun r s' hq=>?_)
 cases r with
 | error e=>exact hx pins σ H s e s' I hq
 | ok fl =>
  cases fl with
  | ret u=>exact I.after hq
  | next=>exact False.elim hq
  | brk=>exact False.elim hq
  | cont=>exact False.elim hq
theorem jV_(F:FnOk X.prog X.w X.K X.mg X.base CX k f fd ps sp)(hr:Room k X.A)(hg:Gl X x)(hm:X.mg x=some (.ref f))(hk:PySem.W.keepIn X.K (.ref f)=true)(hb:Binds X.K fd ps ds)(hd:Vals dvs ds)(hx:Passes CX X E)
  (ha:PA X (e::es) t) (hdb:(x==("__debug__":Str))=false:=by decide) (he:starEach (e::es) X.env=(false,eval e X.env)::starEach es X.env:=by rfl) (hpl:(backTo pos (starEach es X.env)).any (·.1)=false:=by rfl) :
  PE X (.Call (.Name x p) (e::es) [] pos) (tCall sp dvs E t):=by
 intro pins s σ H Q I h
 refine wpAny_Call_Name_kw (dd_ I hg hm ?_ hdb)
 refine PySem.W.callWith_K (h₀:=X.base) I.ok.mod.kin hk (thn (ha pos pins s σ H _ I h) fun us s1 ⟨vs,H1,I1,r,q⟩=>⟨I1.kIn,?_⟩) he hpl
 exact oH_ F hr hb hd hx I1 r q
structure Mk(K:PySem.W.Frag)(C f:Addr):Prop where
 makes:PySem.W.makesIn K C=true
 init:PySem.W.findIn K (.ref C) "__init__"=some (some (.ref f))
 fn:PySem.W.isFn K (.ref f)=true
 kp:PySem.W.keepIn K (.ref C)=true
end
section
variable{X:Cx}{CX:CXT}{k:Nat}{f C:Addr}{fd:FuncData}{ps ks:List Str}{sp:Sp}{E:XK}{x m:Str}{p pos apos kpos:Pos}{e o:Expr}{es:List Expr}{kws:List Keyword}{te ta:TE}{t tk:TA}{nm:Option Str}
variable{g:List Value->List Value->List Value}{gV:List V->List V->List V}
end
structure FnScope(N P:List Str)(sc:Scope):Prop where
 kind:sc.kind=.function
 co:sc.isCoroutine=false
 gen:sc.isGenerator=false
 nd:N.Nodup
 pre:N.take P.length=P
 par:∀x∈P,sc.names.lookup x=some .local\/sc.names.lookup x=some .cell
 nofree:∀y∈sc.names,y.2≠.free
theorem fT_{kindOf:Str->Option NameKind}{x:Str}:∀ {binds:List (Str×Value)} {m:Str->Option Value},(∀v,(x,v)∉binds)->bindL kindOf binds m x=m x
 | [],_,_=>rfl
 | (n,v)::r,m,h=>by
  unfold bindL
  rw[fT_ fun w hw=>h w (List.mem_cons_of_mem _ hw)]
  split
  ·have:x≠n:=by rintro rfl;exact h v List.mem_cons_self
   simp[this]
  ·rfl
theorem fV_{kindOf:Str->Option NameKind}{x:Str}:∀ {binds:List (Str×Value)} {m:Str->Option Value},(∀v,(x,v)∉binds)->bindC kindOf binds m x=m x
 | [],_,_=>rfl
 | (n,v)::r,m,h=>by
  unfold bindC
  rw[fV_ fun w hw=>h w (List.mem_cons_of_mem _ hw)]
  split
  ·rfl
  ·have:x≠n:=by rintro rfl;exact h v List.mem_cons_self
   simp[this]
theorem fU_{kindOf:Str->Option NameKind}{x:Str}{v:Value}:∀ {P:List Str} {vs:List Value} {i:Nat} {m:Str->Option Value},P.Nodup->P[i]?=some x->vs[i]?=some v->kindOf x=some .local->
  bindL kindOf (P.zip vs) m x=some v
 | [],_,_,_,_,h,_,_=>by simp at h
 | _::_,[],_,_,_,_,h,_=>by simp at h
 | p::P,w::vs,0,m,nd,h1,h2,hk=>by
  simp at h1 h2;subst h1;subst h2
  show bindL kindOf ((p,w)::P.zip vs) m p=_
  unfold bindL
  rw[fT_ fun v hv=>(List.nodup_cons.mp nd).1 (List.of_mem_zip hv).1,if_pos hk]
  simp
 | p::P,w::vs,i+1,m,nd,h1,h2,hk=>by
  show bindL kindOf ((p,w)::P.zip vs) m x=_
  unfold bindL
  exact fU_ (i:=i) (List.nodup_cons.mp nd).2 (by simpa using h1) (by simpa using h2) hk
theorem fW_{kindOf:Str->Option NameKind}{x:Str}{v:Value}:∀ {P:List Str} {vs:List Value} {i:Nat} {m:Str->Option Value},P.Nodup->P[i]?=some x->vs[i]?=some v->kindOf x≠some .local->
  bindC kindOf (P.zip vs) m x=some v
 | [],_,_,_,_,h,_,_=>by simp at h
 | _::_,[],_,_,_,_,h,_=>by simp at h
 | p::P,w::vs,0,m,nd,h1,h2,hk=>by
  simp at h1 h2;subst h1;subst h2
  show bindC kindOf ((p,w)::P.zip vs) m p=_
  unfold bindC
  rw[fV_ fun v hv=>(List.nodup_cons.mp nd).1 (List.of_mem_zip hv).1,if_neg hk]
  simp
 | p::P,w::vs,i+1,m,nd,h1,h2,hk=>by
  show bindC kindOf ((p,w)::P.zip vs) m x=_
  unfold bindC
  exact fW_ (i:=i) (List.nodup_cons.mp nd).2 (by simpa using h1) (by simpa using h2) hk
def start(N:List Str)(vs:List V):St:=vs.map some++List.replicate (N.length-vs.length) none
def cxOf(CX:CXT)(P:Program)(w:World)(K:PySem.W.Frag)(mg:Str->Option Value)(base:Heap)(N:List Str)(qual:Str)(scope:Scope)(f:Addr)(cd:Value)(A:Around)(outer:List Env)(s:Shared)(H:Hp)(E:XK):Cx where
 prog:=P
 w:=w
 K:=K
 mg:=mg
 base:=base
 A:=A.deeper (envOfC qual scope s.heap.objs.size f cd)
 N:=N
 s₀:=s
 H₀:=H
 env:=envOfC qual scope s.heap.objs.size f cd
 outer:=outer
 stack:=envOfC qual scope s.heap.objs.size f cd::outer
 ex:=[]
 calm:=true
 fn:=fun _=>true
 pn:=[]
 xe:=fun e s'=>wpAny (model P w) (A.deeper (envOfC qual scope s.heap.objs.size f cd)) (leaving (envOfC qual scope s.heap.objs.size f cd) e) (fun _ s''=>CX outer H s E e s'') (fun e' s''=>CX outer H s E e' s'') s'
theorem ie_{sc:Scope}{n:Nat}{x:Str}(h:sc.names.lookup x=some .cell):∃c,(cellsFrom n sc.names []).lookup x=some c:=by
 have q:=PySem.W.cellsFrom_some sc.names n [] (.inl h)
 exact Option.isSome_iff_exists.mp q
theorem kw_{CX:CXT}{P:Program}{w:World}{K:PySem.W.Frag}{mg:Str->Option Value}{base:Heap}{N ps:List Str}{qual:Str}{scope:Scope}{f:Addr}{cd:Value}{A:Around}{outer:List Env}{s s1:Shared}{H:Hp}{E:XK}{us:List Value}{vs:List V}
  (S:FnScope N ps scope) (hd:A.handled=none) (e0:Env0 P w K mg base A outer s H) (hl:vs.length=ps.length) (r:Vals vs us)
  (x:InCallC s s.heap.objs.size (bindL (envOfC qual scope s.heap.objs.size f cd).kindOf (ps.zip us) fun _=>none) (cellsFrom (s.heap.objs.size+1) scope.names []) (bindC (envOfC qual scope s.heap.objs.size f cd).kindOf (ps.zip us) fun _=>none) s1) :
  Inv (cxOf CX P w K mg base N qual scope f cd A outer s H E) [] (start N vs) H s1:=by
 have hpl:ps.length<=N.length:=by have:=congrArg List.length S.pre;rw[List.length_take] at this;omega
 obtain⟨h1,tk,rfl,hk⟩:=x.done
 have noA:∀b:Addr,b∉(cxOf CX P w K mg base N qual scope f cd A outer s H E).ex:=fun b z=>absurd (show b∈([]:List Addr) from z) (by simp)
 refine⟨⟨e0.mod,S.kind,rfl,rfl,Nat.le_refl _,fun y z c h1 h2=>?_,fun y hy=>?_,fun y c _ h=>?_,fun _=>hd,Around.frames_deeper e0.frames,.inr ⟨rfl,rfl⟩,fun b z=>absurd z (noA b),e0.bs,e0.bsz,fun b _ _=>noA b,fun b z=>absurd z (noA b),e0.funs,e0.frf⟩,
  rfl,e0.bare,Un.kept hk,⟨_,x.toInCall.ns,fun i y v h1 h2 h3=>?_⟩,fun y c h=>⟨_,x.cell y c h⟩,e0.hok.fresh (Nat.le_refl _),fun y c h=>?_,fun p hp=>absurd (show p∈([]:List (Addr×Obj)) from hp) (by simp),e0.hok.kept hk,?_⟩
 ·exact name_of_addr x.apart (PySem.mem_of_lookup h1) (PySem.mem_of_lookup h2)
 ·have hy:scope.names.lookup y=some .cell\/scope.names.lookup y=some .free:=hy
  rcases hy with hy | hy
  ·exact ie_ hy
  ·exact absurd rfl (S.nofree _ (PySem.mem_of_lookup hy))
 ·exact Nat.le_of_lt (x.above y c (PySem.mem_of_lookup h))
 ·have hi:i<vs.length:=by
   unfold start at h2
   by_cases hi:i<vs.length
   ·exact hi
   ·rw[List.getElem?_append_right (by simpa using hi)] at h2
    rw[List.getElem?_replicate] at h2
    split at h2 <;> cases h2
  have ha:vs[i]?=some v:=by
   unfold start at h2
   rw[List.getElem?_append_left (by simpa using hi),List.getElem?_map] at h2
   cases e:vs[i]? with
   | none=>rw[e] at h2;cases h2
   | some a=>rw[e] at h2;cases h2;rfl
  obtain⟨u,hu,rv⟩:=r.get ha
  have hp:ps[i]?=some y:=by
   rw[<-S.pre,List.getElem?_take_of_lt (by omega)];exact h1
  have ndP:ps.Nodup:=by rw[<-S.pre];exact S.nd.sublist (List.take_sublist _ _)
  refine⟨u,rv,?_⟩
  rcases S.par y (List.mem_of_getElem? hp) with k | k
  ·exact .inl ⟨k,fU_ ndP hp hu k⟩
  ·obtain⟨c,e⟩:=ie_ (n:=s.heap.objs.size+1) k
   refine .inr ⟨.inl k,c,e,?_⟩
   have q:=x.cell y c e
   rw[fW_ ndP hp hu (by show scope.names.lookup y≠_;rw[k];decide)] at q
   exact q
 ·exact e0.hok.fresh (Nat.le_of_lt (x.above y c (PySem.mem_of_lookup h)))
 ·unfold start
  show _=N.length
  rw[List.length_append,List.length_map,List.length_replicate]
  omega
theorem ps_{CX:CXT}{P:Program}{w:World}{K:PySem.W.Frag}{mg:Str->Option Value}{base:Heap}{k:Nat}{f:Addr}{name qual:Str}{params:Arguments}{body:List Stmt}{scope:Scope}{dV kV doc pm cdv ct oc:Value}{an od:Option Addr}
  {osl:Array (Option Value)} {N ps:List Str} {sp:Sp} (lk:K.lookup f=some ⟨oc,od,.func (PySem.W.fnOf name qual params body scope dV kV doc pm an cdv ct),osl⟩) (hcd:PySem.W.codeIn K cdv qual=true) (S:FnScope N ps scope)
  (len:∀vs H Q E,sp vs H Q E->vs.length=ps.length)
  (hbody:∀(A:Around) (outer:List Env) (s:Shared) (H:Hp) (vs:List V) (Q:VK) (E:XK),Room k (A.deeper (envOfC qual scope s.heap.objs.size f cdv))->sp vs H Q E->
   ∃t,PSs (cxOf CX P w K mg base N qual scope f cdv A outer s H E) body t/\t {nx:=fun _ H'=>Q .non H',rt:=Q} (start N vs) H) :
  FnOk P w K mg base CX (k+1) f (PySem.W.fnOf name qual params body scope dV kV doc pm an cdv ct) ps sp:=by
 refine⟨len,fun A outer s H args us vs Q E hr e0 hb r hsp=>?_⟩
 have hl:=len _ _ _ _ hsp
 have KX:K.In s.heap:=e0.mod.kin.keeps fun b o e=>(e0.bs b o e).1
 have lim:s.heap.NoLimit:=e0.mod.nolimit.keeps fun b o e=>(e0.bs b o e).1
 have hkind:∀y∈ps.zip us,scope.names.lookup y.1=some .local\/(scope.names.lookup y.1=some .cell/\((cellsFrom (s.heap.objs.size+1) scope.names []).lookup y.1).isSome=true):=fun⟨n,v⟩ hy=>by
  rcases S.par n (List.of_mem_zip hy).1 with q | q
  ·exact .inl q
  ·exact .inr ⟨q,PySem.W.cellsFrom_some _ _ _ (.inl q)⟩
 refine codeAny_call_function hr.depth (KX _ _ lk) rfl S.co S.gen rfl (PySem.W.codeRec_of KX hcd) (hb _ _ _ _ ?_)
 refine wpAny_newFunctionEnv_cells S.kind hkind fun env he s1 x=>?_
 subst he
 refine⟨lim.keeps x.toInCall.keep,codeAny_func ?_⟩
 obtain⟨t,ht,hq⟩:=hbody A outer s H vs Q E (hr.deeper _) hsp
 have I:Inv (cxOf CX P w K mg base N qual scope f cdv A outer s H E) [] (start N vs) H s1:=kw_ S hr.hd e0 hl r x
 refine wpAny_mono (ht [] s1 (start N vs) H _ I hq) (fun fl s' hs=>?_) fun e s' hs=>hs
 have fin:∀ {σ':St} {H':Hp} {v:V} {u:Value},Inv (cxOf CX P w K mg base N qual scope f cdv A outer s H E) [] σ' H' s'->RelV v u->Q v H'->CE outer P w H s Q u s' :=
  fun {σ' H' v u} J rv q=>⟨v,H',J.os,J.bare,J.base,J.hok,rv,q⟩
 cases fl with
 | ret u =>
  obtain⟨v,σ',H',J,rv,q⟩:=hs
  exact fin J rv q
 | next =>
  obtain⟨σ',H',J,q⟩:=hs
  exact fin (v:=V.non) (u:=Value.none) J rfl q
 | brk =>
  obtain⟨_,_,_,q⟩:=hs
  exact False.elim q
 | cont =>
  obtain⟨_,_,_,q⟩:=hs
  exact False.elim q
section
variable{X:Cx}{x:Str}{p pos:Pos}{e:Expr}{es:List Expr}{t:TA}{id T:String}{r:List V->Hp->VK->Prop}
def tCB(r:List V->Hp->VK->Prop)(t:TA):TE:=fun σ H Q=>t σ H fun vs H1=>r vs H1 Q
theorem o_(hc:CallR X (.builtin id) r)(hg:Gl X x)(hm:X.mg x=none)(hv:bootBuiltins x=some (.builtin id))(ha:PA X (e::es) t)(hn:x≠"__name__":=by decide)(hdb:(x==("__debug__":Str))=false:=by decide)
  (he:starEach (e::es) X.env=(false,eval e X.env)::starEach es X.env:=by rfl) (hpl:(backTo pos (starEach es X.env)).any (·.1)=false:=by rfl):PE X (.Call (.Name x p) (e::es) [] pos) (tCB r t):=by
 intro pins s σ H Q I h
 refine wpAny_Call_Name_kw (aP_ I hg hm hv ?_ hn hdb)
 exact PyProof.Rows.callWith_builtin1 (thn (ha pos pins s σ H _ I h) fun us s1 ⟨vs,H1,I1,r1,q1⟩=>hc pins s1 σ H1 vs us Q I1 r1 q1) he hpl
theorem Q_(hc:CallR X (.type T) r)(hg:Gl X x)(hm:X.mg x=none)(hv:bootBuiltins x=some (.type T))(ha:PA X (e::es) t)(hn:x≠"__name__":=by decide)(hdb:(x==("__debug__":Str))=false:=by decide)
  (he:starEach (e::es) X.env=(false,eval e X.env)::starEach es X.env:=by rfl) (hpl:(backTo pos (starEach es X.env)).any (·.1)=false:=by rfl):PE X (.Call (.Name x p) (e::es) [] pos) (tCB r t):=by
 intro pins s σ H Q I h
 refine wpAny_Call_Name_kw (aP_ I hg hm hv ?_ hn hdb)
 exact PyProof.Rows.callWith_type1 (thn (ha pos pins s σ H _ I h) fun us s1 ⟨vs,H1,I1,r1,q1⟩=>hc pins s1 σ H1 vs us Q I1 r1 q1) he hpl
end
end L2
namespace HT
open PySem PyProof.Rows
section
open PySem.SeqAt
open PySem.AutoSeq1 (wpAny_loadPart')
open PySem.MeetsSeq PySem.MeetsSeq2 PySem.MeetsSeq3
end
section
variable{prog:Program}{w:World}{A:Around}{E:Value->Shared->Prop}{s:Shared}
def sIx(n d:Nat):Option Int->Nat
 | none=>d
 | some v=>if v<0 then (v+(n:Int)).toNat else min v.toNat n
theorem hz_(n d:Nat):sIx n d none=d:=rfl
theorem ed_(n d k:Nat):sIx n d (some (k:Int))=min k n:=by
 show(if (k:Int)<0 then ((k:Int)+(n:Int)).toNat else min (k:Int).toNat n)=min k n
 rw[if_neg (by omega),Int.toNat_natCast]
end
end HT
namespace L2
open PySem PySem.Spec PyProof.Rows
abbrev TO:=St->Hp->(Option Int->Hp->Prop)->Prop
def PO(X:Cx)(e:Option Expr)(t:TO):Prop :=
 ∀(pins:List (Addr×Obj)) (s:Shared) (σ:St) (H:Hp) (Q:Option Int->Hp->Prop),Inv X pins σ H s->t σ H Q->
  wpAny (model X.prog X.w) X.A (evalPart e X.env) (fun u s'=>∃o H',Inv X pins σ H' s'/\IsPart u o/\Q o H') X.xe s
def nq_:TO:=fun _ H Q=>Q none H
def tPart(t:TE):TO:=fun σ H Q=>t σ H fun x H1=>∃i,x=.int i/\Q (some i) H1
section
variable{X:Cx}{e:Expr}{te:TE}{lo hi:Option Expr}{tl th:TO}{pos p2:Pos}
theorem cW_:PO X none nq_:=by
 intro pins s σ H Q I h
 rw[evalPart_none]
 exact wpAny_pure ⟨none,H,I,.none,h⟩
theorem au_(h:PE X e te):PO X (some e) (tPart te):=by
 intro pins s σ H Q I hw
 rw[evalPart_some]
 refine thn (h pins s σ H _ I hw) fun u s1 ⟨x,H1,I1,r1,q1⟩=>?_
 obtain⟨i,rfl,q⟩:=q1
 obtain⟨t,rfl⟩:=r1
 exact⟨some i,H1,I1,.int i t,q⟩
def SlR(X:Cx)(r:V->Option Int->Option Int->Hp->VK->Prop):Prop :=
 ∀(pins:List (Addr×Obj)) (s:Shared) (σ:St) (H:Hp) (x:V) (v vl vu:Value) (lo hi:Option Int) (sl:Addr) (Q:VK),Inv X pins σ H s->RelV x v->s.heap.IsSliceOf sl vl vu .none->IsPart vl lo->IsPart vu hi->r x lo hi H Q->
  ∃T id,typeLookup (.type T) "__getitem__"=pure (some (.builtin id))/\s.TypeIs v T/\wpAny (model X.prog X.w) X.A (getItem v (.ref sl)) (EP X pins σ Q) X.xe s
def tSl(r:V->Option Int->Option Int->Hp->VK->Prop)(te:TE)(tl th:TO):TE:=fun σ H Q=>te σ H fun x H1=>tl σ H1 fun l H2=>th σ H2 fun u H3=>r x l u H3 Q
theorem aD_{r:V->Option Int->Option Int->Hp->VK->Prop}(hr:SlR X r)(he:PE X e te)(hl:PO X lo tl)(hu:PO X hi th):PE X (.Subscript e (.Slice lo hi none p2) pos) (tSl r te tl th):=by
 intro pins s σ H Q I h
 refine Subscript_ (thn (he pins s σ H _ I h) fun v s1 ⟨x,H1,I1,r1,q1⟩=>?_)
 refine wpAny_Slice (thn (hl pins s1 σ H1 _ I1 q1) fun vl s2 ⟨l,H2,I2,pl,q2⟩=>thn (hu pins s2 σ H2 _ I2 q2) fun vu s3 ⟨u,H3,I3,pu,q3⟩=>?_)
 rw[evalPart_none]
 refine wpAny_pure ?_
 have I4:Inv X pins σ H3 {s3 with heap:=s3.heap.push {cls:=.type "slice",data:=.fields #[vl,vu,.none]}}:=I3.kept (t':=s3.toks) fun b ob q=>Heap.get?_push_of_some _ q
 obtain⟨T,id,hT,ht,hg⟩:=hr pins {s3 with heap:=s3.heap.push {cls:=.type "slice",data:=.fields #[vl,vu,.none]}} σ H3 x v vl vu l u s3.heap.objs.size Q I4 r1 (Heap.IsSliceOf.new ..) pl pu q3
 show wpAny (model X.prog X.w) X.A (subscriptTail e (.Slice lo hi none p2) v (.ref s3.heap.objs.size)) (EP X pins σ Q) X.xe {s3 with heap:=s3.heap.push {cls:=.type "slice",data:=.fields #[vl,vu,.none]}}
 exact tail_any (ops:=[.ref s3.heap.objs.size,v]) ht hT hg (by with_unfolding_all rfl)
def cutV(xs:List V)(lo hi:Option Int):List V:=(xs.drop (HT.sIx xs.length 0 lo)).take (HT.sIx xs.length xs.length hi-HT.sIx xs.length 0 lo)
theorem gZ_(xs:List V)(lo hi:Option Int):(cutV xs lo hi).length<=xs.length:=by
 unfold cutV
 rw[List.length_take,List.length_drop]
 omega
end
def ixN(n:Nat)(i:Int):Option Nat:=if 0<=i then (if i<n then some i.toNat else none) else if -(n:Int)<=i then some (i+n).toNat else none
def atI{α:Type}(xs:List α)(i:Int):Option α:=(ixN xs.length i).bind fun j=>xs[j]?
theorem ks_{n:Nat}{i:Int}{j:Nat}(h:ixN n i=some j):seqIndex? i n=some j/\j<n/\-(n:Int)<=i/\i<n:=by
 unfold ixN at h
 by_cases h0:0<=i
 ·rw[if_pos h0] at h
  by_cases h1:i<n
  ·rw[if_pos h1] at h
   have e:i.toNat=j:=Option.some.inj h
   exact⟨by rw[seqIndex_of h0 h1,e],by omega,by omega,h1⟩
  ·rw[if_neg h1] at h;cases h
 ·rw[if_neg h0] at h
  by_cases h1 : -(n:Int)<=i
  ·rw[if_pos h1] at h
   have e:(i+n).toNat=j:=Option.some.inj h
   exact⟨by rw[seqIndex_neg (by omega) h1,e],by omega,h1,by omega⟩
  ·rw[if_neg h1] at h;cases h
theorem lg_{α:Type}{xs:List α}{i:Int}{v:α}(h:atI xs i=some v):∃j,seqIndex? i xs.length=some j/\xs[j]?=some v/\j<xs.length/\-(xs.length:Int)<=i/\i<xs.length:=by
 unfold atI at h
 cases e:ixN xs.length i with
 | none=>rw[e] at h;cases h
 | some j =>
  rw[e] at h
  obtain⟨h1,h2,h3,h4⟩:=ks_ e
  exact⟨j,h1,h,h2,h3,h4⟩
theorem V_{α:Type}{xs:List α}{j:Nat}{v:α}(h:xs[j]?=some v):atI xs (j:Int)=some v:=by
 have hj:j<xs.length:=(List.getElem?_eq_some_iff.mp h).1
 have e:ixN xs.length (j:Int)=some j:=by
  unfold ixN
  rw[if_pos (by omega),if_pos (by omega)];simp
 unfold atI;rw[e];exact h
theorem if_{α:Type}(xs:List α)(v:α):atI (xs++[v]) (-1)=some v:=by
 have hl:(xs++[v]).length=xs.length+1:=by simp
 have e:ixN (xs++[v]).length (-1)=some xs.length:=by
  unfold ixN
  rw[hl,if_neg (by decide),if_pos (by omega)]
  congr 1
  omega
 unfold atI
 rw[e]
 show(xs++[v])[xs.length]?=some v
 simp
def dl_(b:Expr):Prop:=∀o i,subscripted b false o i=operate [o,i] (getItem o i)
def IxR(X:Cx)(r:R2):Prop :=
 ∀(value slice:Expr) (pins:List (Addr×Obj)) (s:Shared) (σ:St) (H:Hp) (x y:V) (v u:Value) (Q:VK),Inv X pins σ H s->RelV x v->RelV y u->r x y H Q->
  subscripted slice false v u=operate [v,u] (getItem v u)->wpAny (model X.prog X.w) X.A (subscriptTail value slice v u) (EP X pins σ Q) X.xe s
def MtR(X:Cx)(id:String)(r:V->List V->Hp->VK->Prop):Prop :=
 ∀(pins:List (Addr×Obj)) (s:Shared) (σ:St) (H:Hp) (x:V) (xs:List V) (v:Value) (us:List Value) (Q:VK),Inv X pins σ H s->RelV x v->Vals xs us->r x xs H Q->
  wpAny (model X.prog X.w) X.A (call (.builtin id) (v::us)) (EP X pins σ Q) X.xe s
section
variable{X:Cx}{a b:Expr}{ta tb:TE}{pos:Pos}
theorem oM_{r:R2}(hr:IxR X r)(ha:PE X a ta)(hb:PE X b tb)(hs:dl_ b):PE X (.Subscript a b pos) (tOp r ta tb):=by
 intro pins s σ H Q I h
 exact Subscript_ (binT ha hb I h fun v u s2 x y H2 I2 rx ry q=>hr a b pins s2 σ H2 x y v u Q I2 rx ry q (hs _ _))
def rIxL(K:PySem.W.Frag):R2:=fun x y H Q=>∃p xs i v,x=.ref p/\y=.int i/\SqL K H p xs/\atI xs i=some v/\Q v H
def rIxT(K:PySem.W.Frag):R2:=fun x y H Q=>∃p xs i v,x=.ref p/\y=.int i/\SqT K H p xs/\atI xs i=some v/\Q v H
theorem oh_:IxR X (rIxL X.K):=by
 intro value slice pins s σ H x y v u Q I rx ry h hs
 obtain⟨p,xs,i,z,rfl,rfl,hq,he,q⟩:=h
 cases rx
 obtain⟨t,rfl⟩:=ry
 obtain⟨its,r,pl,hz⟩:=I.list hq
 obtain⟨j,h1,h2,h3,h4,h5⟩:=lg_ he
 obtain⟨w,ew,rw'⟩:=r.get h2
 have hl:=r.length
 have hn:=line63
 have fin:EP X pins σ Q w s:=⟨z,H,I,rw',q⟩
 by_cases h0:0<=i
 ·have hj:i.toNat=j:=by
   rw[seqIndex_of h0 h5] at h1
   exact Option.some.inj h1
  exact item_listR pl.isList h0 (by omega) (by rw[hj];simpa using ew) fin hs
 ·have hj:(i+(its.toArray.size:Int)).toNat=j:=by
   rw[seqIndex_neg (by omega) h4] at h1
   rw[List.size_toArray,<-hl]
   exact Option.some.inj h1
  exact subscriptTail_builtinR (x:=w) pl.isList.typeIs slot_list_getitem.lookup
   (wpAny_getItem_list_neg (Q:=fun r s'=>r=w/\EP X pins σ Q r s') pl.isList (by omega) (by rw[List.size_toArray] <;> omega) (by omega) (by rw[hj];simpa using ew) ⟨rfl,fin⟩) hs
theorem pj_:IxR X (rIxT X.K):=by
 intro value slice pins s σ H x y v u Q I rx ry h hs
 obtain⟨p,xs,i,z,rfl,rfl,hq,he,q⟩:=h
 cases rx
 obtain⟨t,rfl⟩:=ry
 obtain⟨its,r,pl,hz⟩:=I.tuple hq
 obtain⟨j,h1,h2,h3,h4,h5⟩:=lg_ he
 obtain⟨w,ew,rw'⟩:=r.get h2
 have hl:=r.length
 have hn:=line63
 have fin:EP X pins σ Q w s:=⟨z,H,I,rw',q⟩
 exact subscriptTail_builtinR (x:=w) pl.typeIs slot_tuple_getitem.lookup
  (getItem_tuple (j:=j) (Q:=fun r s'=>r=w/\EP X pins σ Q r s') pl (by omega) (by omega) (by rw[List.size_toArray,<-hl];exact h1) (by simpa using ew) ⟨rfl,fin⟩) hs
theorem iF_(its:List Value)(n j:Nat)(u:Value):Obj.mapSeq (·.setIfInBounds j u) {cls:=.type "list",data:=.seq its.toArray n}={cls:=.type "list",data:=.seq (its.set j u).toArray n}:=by
 simp[Obj.mapSeq]
theorem Inv.lst{pins:List (Addr×Obj)}{σ:St}{H:Hp}{s:Shared}{p:Addr}{xs:List V}(I:Inv X pins σ H s)(h:H p=some (.lst xs)) :
  ∃(its:List Value) (n:Nat),Vals xs its/\s.heap.get? p=some {cls:=.type "list",data:=.seq its.toArray n}/\xs.length<=sizeLine:=by
 obtain⟨z,its,n,r,e⟩:=I.hok p _ h
 exact⟨its,n,r,e,z⟩
theorem Inv.lstUpd{pins:List (Addr×Obj)}{σ:St}{H:Hp}{s:Shared}{p:Addr}{xs ys:List V}{its its':List Value}{n n':Nat}{f:Obj->Obj}(I:Inv X pins σ H s)(h:H p=some (.lst xs))
  (ho:s.heap.get? p=some {cls:=.type "list",data:=.seq its.toArray n}) (hf:f {cls:=.type "list",data:=.seq its.toArray n}={cls:=.type "list",data:=.seq its'.toArray n'}) (r:Vals ys its') (hz:ys.length<=sizeLine) (t:Nat) :
  Inv X pins σ (upd H p (.lst ys)) {s with heap:=s.heap.update p f,toks:=t}:=by
 have e:(s.heap.update p f).get? p=some {cls:=.type "list",data:=.seq its'.toArray n'}:=by
  rw[Heap.get?_update_self f ho (by rw[hf] <;> rfl),hf]
 refine I.write (x:=p) (e:=p) (by rw[h];trivial) (.inl rfl) (fun b u hb q=>(Heap.get?_update_other _ _ (Ne.symm hb)).trans q) ⟨_,e⟩ ?_
 exact⟨hz,its',n',r,e⟩
def rSetL:V->V->V->Hp->(Hp->Prop)->Prop:=fun o i v H Q=>∃p xs k j,o=.ref p/\i=.int k/\H p=some (.lst xs)/\ixN xs.length k=some j/\Q (upd H p (.lst (xs.set j v)))
theorem hs_:PSet X rSetL:=by
 intro pins s σ H o i v ov iv u Q I ro ri rv h
 obtain⟨p,xs,k,j,rfl,rfl,hp,hj,q⟩:=h
 cases ro
 obtain⟨t,rfl⟩:=ri
 obtain⟨its,n,r,ho,hz⟩:=I.lst hp
 obtain⟨h1,h2,h3,h4⟩:=ks_ hj
 have hl:=r.length
 have hn:=line63
 have I':Inv X pins σ (upd H p (.lst (xs.set j v))) {s with heap:=s.heap.update p (Obj.mapSeq (·.setIfInBounds j u))} :=
  I.lstUpd hp ho (iF_ its n j u) (r.set rv j) (by rw[List.length_set];exact hz) s.toks
 by_cases h0:0<=k
 ·have hk:k.toNat=j:=by
   rw[seqIndex_of h0 h4] at h1
   exact Option.some.inj h1
  exact PySem.W.ki_setAt ho h0 (by omega) (by rw[List.size_toArray,<-hl];exact h4) (by rw[hk];exact⟨_,I',q⟩)
 ·have hk:(k+(its.toArray.size:Int)).toNat=j:=by
   rw[seqIndex_neg (by omega) h3] at h1
   rw[List.size_toArray,<-hl]
   exact Option.some.inj h1
  exact PySem.W.ki_setBack ho (by omega) (by rw[List.size_toArray,<-hl];exact h3) (by omega) (by rw[hk];exact⟨_,I',q⟩)
theorem eY_(lo hi:Option Int)(n:Nat):(sliceBounds lo hi none n).1=((HT.sIx n 0 lo:Nat):Int)/\(sliceBounds lo hi none n).2.1=((HT.sIx n n hi:Nat):Int)/\(sliceBounds lo hi none n).2.2=1:=by
 refine⟨?_,?_,rfl⟩
 ·cases lo with
  | none=>simp[sliceBounds,HT.sIx]
  | some i =>
   simp only[sliceBounds,HT.sIx,Option.getD_none,show(1:Int)>0 by decide,if_true]
   by_cases h:i<0
   ·simp only[h,if_true] <;> omega
   ·simp only[h,if_false] <;> omega
 ·cases hi with
  | none=>simp[sliceBounds,HT.sIx]
  | some i =>
   simp only[sliceBounds,HT.sIx,Option.getD_none,show(1:Int)>0 by decide,if_true]
   by_cases h:i<0
   ·simp only[h,if_true] <;> omega
   ·simp only[h,if_false] <;> omega
theorem dX_(its:List Value)(lo hi:Option Int):slicePick its.toArray lo hi none=((its.drop (HT.sIx its.length 0 lo)).take (HT.sIx its.length its.length hi-HT.sIx its.length 0 lo)).toArray:=by
 obtain⟨h1,h2,h3⟩:=eY_ lo hi its.toArray.size
 unfold slicePick
 rw[h1,h2,h3]
 simp only[sliceRange_one,pick_run,List.size_toArray] <;> rfl
def rSlL(K:PySem.W.Frag):V->Option Int->Option Int->Hp->VK->Prop:=fun x lo hi H Q=>∃a xs,x=.ref a/\SqL K H a xs/\∀p,H p=none->Q (.ref p) (upd H p (.lst (cutV xs lo hi)))
theorem bI_:SlR X (rSlL X.K):=by
 intro pins s σ H x v vl vu lo hi sl Q I rx hs pl pu h
 obtain⟨a,xs,rfl,hx,q⟩:=h
 cases rx
 obtain⟨its,r,ht,hz⟩:=I.list hx
 have hlen:=r.length
 refine⟨"list",_,slot_list_getitem.lookup,ht.isList.typeIs,?_⟩
 refine wpAny_getItem_list_slice ht.isList hs pl pu .none (by simp) ?_ (by rw[List.size_toArray] <;> omega)
 rw[dX_,<-hlen]
 refine⟨.ref s.heap.objs.size,_,I.laid (t':=s.toks) (o:=.lst (cutV xs lo hi)) (fun b ob q=>Heap.get?_push_of_some _ q) (Nat.le_refl _) ?_,rfl,q _ (I.hok.fresh (Nat.le_refl _))⟩
 exact⟨Nat.le_trans (gZ_ xs lo hi) hz,_,0,(r.drop (HT.sIx xs.length 0 lo)).take (HT.sIx xs.length xs.length hi-HT.sIx xs.length 0 lo),Heap.get?_push_size _ rfl⟩
theorem fR_:CallR X (.builtin "len") (fun xs H Q=>∃p ys,xs=[.ref p]/\(SqL X.K H p ys\/SqT X.K H p ys)/\Q (.int ys.length) H):=by
 intro pins s σ H xs us Q I r h
 obtain⟨p,ys,rfl,hq,q⟩:=h
 obtain⟨u,rfl,rx⟩:=vals1 r
 cases rx
 have hn:=line63
 rcases hq with hq | hq
 ·obtain⟨its,r',pl,hz⟩:=I.list hq
  have hlen:=r'.length
  exact Calls.call_len_list pl.isList (by simp only[List.size_toArray] <;> omega) ⟨.int ys.length,H,I.tok _,⟨s.toks+1,by rw[List.size_toArray,hlen]⟩,q⟩
 ·obtain⟨its,r',pl,hz⟩:=I.tuple hq
  have hlen:=r'.length
  exact len_tuple pl (by simp only[List.size_toArray] <;> omega) ⟨.int ys.length,H,I.tok _,⟨s.toks+1,by rw[List.size_toArray,hlen]⟩,q⟩
theorem ct_:CallR X (.type "list") (fun xs H Q=>∃p ys,xs=[.ref p]/\(SqL X.K H p ys\/SqT X.K H p ys)/\∀l,H l=none->Q (.ref l) (upd H l (.lst ys))):=by
 intro pins s σ H xs us Q I r h
 obtain⟨p,ys,rfl,hq,q⟩:=h
 obtain⟨u,rfl,rx⟩:=vals1 r
 cases rx
 have fin:∀(its:List Value),Vals ys its->ys.length<=sizeLine->∀(h':Heap) (c':Nat),(∀b o',s.heap.get? b=some o'->h'.get? b=some o')->
   h'.get? s.heap.objs.size=some {cls:=.type "list",dict:=none,data:=.seq its.toArray c',slots:=#[]}->EP X pins σ Q (.ref s.heap.objs.size) {s with heap:=h'}:=fun its r' hz h' c' kp e =>
  ⟨.ref s.heap.objs.size,_,I.laid (t':=s.toks) kp (Nat.le_refl _) (show ObjOk X.prog X.w _ h' _ (.lst ys) from⟨hz,its,c',r',e⟩),rfl,q _ (I.hok.fresh (Nat.le_refl _))⟩
 rcases hq with hq | hq
 ·obtain⟨its,r',pl,hz⟩:=I.list hq
  have hlen:=r'.length
  obtain⟨o,ho,hc,n,hd⟩:=pl.isList
  exact call_list_seq p (.inl rfl) ho hc hd (fun h' c' kp e=>fin its r' hz h' c' kp e) (by simp only[List.size_toArray] <;> omega)
 ·obtain⟨its,r',pl,hz⟩:=I.tuple hq
  have hlen:=r'.length
  obtain⟨o,ho,hc,n,hd⟩:=pl
  exact call_list_seq p (.inr rfl) ho hc hd (fun h' c' kp e=>fin its r' hz h' c' kp e) (by simp only[List.size_toArray] <;> omega)
def tyV(K:PySem.W.Frag)(T:String)(x:V)(H:Hp):Prop:=match x with
 | .str _=>T="str"
 | .int _=>T="int"
 | .ref p=>(T="list"/\∃xs,SqL K H p xs)\/(T="tuple"/\∃o,K.lookup p=some o/\o.cls=.type "tuple"/\o.dict=none)\/
   (T="dict"/\((∃kvs,H p=some (.dK kvs))\/∃kvs,H p=some (.dT kvs)))\/(T="set"/\∃S n,H p=some (.set S n))
 | _=>False
theorem os_{pins:List (Addr×Obj)}{σ:St}{H:Hp}{s:Shared}{T:String}{x:V}{v:Value}(I:Inv X pins σ H s)(r:RelV x v)(ty:tyV X.K T x H) :
  s.TypeIs v T/\∀a,v=.ref a->∃ob,s.heap.get? a=some ob/\ob.dict=none:=by
 cases x with
 | str z =>
  obtain⟨t,rfl⟩:=r
  cases (show T="str" from ty)
  exact⟨typeIs_str s z t,fun _ e=>nomatch e⟩
 | int i =>
  obtain⟨t,rfl⟩:=r
  cases (show T="int" from ty)
  exact⟨typeIs_int s i t,fun _ e=>nomatch e⟩
 | ref p =>
  cases r
  rcases ty with⟨rfl,xs,hq⟩ | ⟨rfl,o,hk,hc,hd⟩ | ⟨rfl,hk⟩ | ⟨rfl,S,n,hk⟩
  ·obtain⟨its,_,pl,_⟩:=I.list hq
   refine⟨pl.isList.typeIs,fun a e=>?_⟩
   cases e
   obtain⟨o,n,e,c,hd,_⟩:=pl
   exact⟨o,e,hd⟩
  ·refine⟨⟨o,I.kIn p o hk,hc⟩,fun a e=>?_⟩
   cases e
   exact⟨o,I.kIn _ o hk,hd⟩
  ·have z:∃o,s.heap.get? p=some o/\o.ExactDict:=by
    rcases hk with⟨kvs,hk⟩ | ⟨kvs,hk⟩
    ·obtain⟨_,_,_,_,o,_,_,e,ex,_⟩:=I.hok p _ hk
     exact⟨o,e,ex⟩
    ·obtain⟨_,_,_,_,o,_,_,e,ex,_⟩:=I.hok p _ hk
     exact⟨o,e,ex⟩
   obtain⟨o,e,ex⟩:=z
   refine⟨⟨o,e,ex.1⟩,fun a e2=>?_⟩
   cases e2
   exact⟨o,e,ex.2.1⟩
  ·obtain⟨o,_,_,_,e,ex,_⟩:=I.hok p _ hk
   refine⟨⟨o,e,ex.1⟩,fun a e2=>?_⟩
   cases e2
   exact⟨o,e,ex.2.1⟩
 | _=>exact False.elim ty
def tBM(K:PySem.W.Frag)(T:String)(r:V->List V->Hp->VK->Prop)(to:TE)(t:TA):TE:=fun σ H Q=>to σ H fun x H1=>tyV K T x H1/\t σ H1 fun xs H2=>r x xs H2 Q
variable{o e:Expr}{es:List Expr}{to:TE}{t:TA}{name:Str}{apos cpos:Pos}{T id:String}{r:V->List V->Hp->VK->Prop}
theorem cX_(pa:PlainAttrs T)(slot:Slot T name id)(hty:typeOf (.builtin id)=pure (.type "method_descriptor"))(hm:MtR X id r)(ho:PE X o to)(ha:PA X (e::es) t)
  (hbase:attributeBase o name X.env (eval o X.env)=eval o X.env:=by rfl)
  (hfew:((backTo cpos (starEach (e::es) X.env)).all (fun x=>!x.1)&&(backToKw cpos (keywordEach [] X.env)).all (fun x=>x.1.isSome)
   && decide ((e::es).length+([]:List Keyword).length+(if ([]:List Keyword).isEmpty then 0 else 1)<30))=true:=by rfl)
  (hline:(apos.endLine==cpos.line)=true:=by rfl) (hs:starEach (e::es) X.env=(false,eval e X.env)::starEach es X.env:=by rfl) (hplain:(backTo cpos (starEach es X.env)).any (·.1)=false:=by rfl) :
  PE X (.Call (.Attribute o name apos) (e::es) [] cpos) (tBM X.K T r to t):=by
 intro pins s σ H Q I h
 refine wpAny_Call_method_late hbase hfew hline rfl (thn (ho pins s σ H _ I h) fun v s1 ⟨x,H1,I1,r1,ty,q1⟩=>?_)
 obtain⟨h1,h2⟩:=os_ I1 r1 ty
 refine⟨T,id,pa,slot,hty,h1,h2,?_⟩
 have hA:=ha cpos pins s1 σ H1 _ I1 q1
 rw[hs] at hA⊢
 refine Calls.callWith_builtin (by show(false || (backTo cpos (starEach es X.env)).any (·.1))=false;rw[hplain] <;> rfl) (Calls.evalArgs_plain ?_)
 exact thn hA fun us s2 ⟨vs,H2,I2,r2,q2⟩=>hm pins s2 σ H2 x vs v us Q I2 r1 r2 q2
end
def MtM(X:Cx)(id:String)(r:V->List V->Hp->VK->Prop):Prop :=
 ∀(pins:List (Addr×Obj)) (s:Shared) (σ:St) (H:Hp) (x:V) (xs:List V) (v:Value) (us:List Value) (Q:VK),Inv X pins σ H s->RelV x v->Vals xs us->r x xs H Q->
  wpAny (model X.prog X.w) X.A (call (.builtin id) (v::us)) (EP X pins σ Q) X.xe s
theorem Vals.one:∀ {x:V} {us:List Value},Vals [x] us->∃u,us=[u]/\RelV x u
 | _,_,.cons r .nil=>⟨_,rfl,r⟩
theorem Vals.two:∀ {x y:V} {us:List Value},Vals [x,y] us->∃u v,us=[u,v]/\RelV x u/\RelV y v
 | _,_,_,.cons r (.cons q .nil)=>⟨_,_,rfl,r,q⟩
theorem Vals.reverse{xs:List V}{us:List Value}(h:Vals xs us):Vals xs.reverse us.reverse:=by
 induction h with
 | nil=>exact .nil
 | cons r t ih=>rw[List.reverse_cons,List.reverse_cons];exact Vals.append ih (.cons r .nil)
theorem Vals.rep{xs:List V}{us:List Value}(h:Vals xs us):∀k:Nat,Vals (List.replicate k xs).flatten (List.replicate k us).flatten
 | 0=>.nil
 | k+1=>by
  rw[List.replicate_succ,List.replicate_succ,List.flatten_cons,List.flatten_cons]
  exact Vals.append h (Vals.rep h k)
theorem fG_(its:List Value):∀(k:Nat) (acc:List Value),
  List.foldl (fun x1 x2=>x1++x2) acc.toArray (List.replicate k its.toArray)=(acc++(List.replicate k its).flatten).toArray
 | 0,acc=>by simp
 | k+1,acc=>by
  have e:acc.toArray++its.toArray=(acc++its).toArray:=by simp
  have e2:(acc++its)++(List.replicate k its).flatten=acc++(List.replicate (k+1) its).flatten:=by
   rw[List.replicate_succ,List.flatten_cons,List.append_assoc]
  rw[<-e2,<-fG_ its k (acc++its),<-e,List.replicate_succ,List.foldl_cons]
section
variable{X:Cx}{pins:List (Addr×Obj)}{σ:St}{H:Hp}{s:Shared}{l b:Addr}{xs ys zs:List V}
theorem Inv.lset{its its':List Value}{n:Nat}{f:Array Value->Array Value}{t':Nat}(I:Inv X pins σ H s)(hH:H l=some (.lst xs))
  (e:s.heap.get? l=some {cls:=.type "list",data:=.seq its.toArray n}) (hf:f its.toArray=its'.toArray) (hv:Vals ys its') (hz:ys.length<=sizeLine) :
  Inv X pins σ (upd H l (.lst ys)) {s with heap:=s.heap.update l (Obj.mapSeq f),toks:=t'}:=by
 have q:=PySem.IsL.update e f
 rw[hf] at q
 refine I.write (x:=l) (e:=l) (by rw[hH];exact trivial) (.inl rfl) (fun b' u hb hu=>(Heap.get?_update_other s.heap (Obj.mapSeq f) (Ne.symm hb)).trans hu) ⟨_,q⟩ ?_
 exact⟨hz,its',_,hv,q⟩
theorem Inv.lnew{its:List Value}{t':Nat}(I:Inv X pins σ H s)(hv:Vals ys its)(hz:ys.length<=sizeLine) :
  Inv X pins σ (upd H s.heap.objs.size (.lst ys)) {s with heap:=s.heap.push {cls:=.type "list",data:=.seq its.toArray},toks:=t'} :=
 I.laid (fun _ _ q=>Heap.get?_push_of_some _ q) (Nat.le_refl _) ⟨hz,its,0,hv,Heap.get?_push_size _ rfl⟩
theorem Inv.fresh(I:Inv X pins σ H s):H s.heap.objs.size=none:=I.hok.fresh (Nat.le_refl _)
theorem Inv.lstM(I:Inv X pins σ H s)(hH:H l=some (.lst xs)):xs.length<=sizeLine/\∃(its:List Value) (n:Nat),Vals xs its/\xs.length=its.length/\s.heap.get? l=some {cls:=.type "list",data:=.seq its.toArray n}:=by
 obtain⟨z,its,n,r,e⟩:=I.hok l _ hH
 exact⟨z,its,n,r,r.length,e⟩
theorem hK_{n:Nat}(h:n<=sizeLine):Builtin.List.listTooLong n=false:=by
 unfold Builtin.List.listTooLong
 exact decide_eq_false (by omega)
end
section
variable{X:Cx}
def nA_:V->List V->Hp->VK->Prop:=fun x vs H Q=>∃l xs y,x=.ref l/\vs=[y]/\H l=some (.lst xs)/\xs.length<sizeLine/\Q .non (upd H l (.lst (xs++[y])))
theorem T_:MtM X "list.append" nA_:=by
 intro pins s σ H x vs v us Q I rx rv h
 obtain⟨l,xs,y,rfl,rfl,hH,hz,q⟩:=h
 cases rx
 obtain⟨u,rfl,ru⟩:=rv.one
 obtain⟨z,its,n,r,hl,e⟩:=I.lstM hH
 refine call_meets F.slot_list_append ⟨_,e,rfl⟩ F.entry_list_append (F.args_list_append_2 _ _) (PySem.list_append l its.toArray n u (by rw[List.size_toArray];omega)) ⟨e,?_⟩
 refine⟨.non,_,I.lset (its':=its++[u]) hH e (by simp) (r.append (.cons ru .nil)) ?_,rfl,q⟩
 rw[List.length_append,List.length_singleton]
 omega
def nz_:V->List V->Hp->VK->Prop:=fun x vs H Q=>∃l b xs zs,x=.ref l/\vs=[.ref b]/\H l=some (.lst xs)/\H b=some (.lst zs)/\xs.length+zs.length<=sizeLine/\Q .non (upd H l (.lst (xs++zs)))
theorem mt_extend:MtM X "list.extend" nz_:=by
 intro pins s σ H x vs v us Q I rx rv h
 obtain⟨l,b,xs,zs,rfl,rfl,hH,hB,hz,q⟩:=h
 cases rx
 obtain⟨u,rfl,ru⟩:=rv.one
 cases ru
 obtain⟨z,its,n,r,hl,e⟩:=I.lstM hH
 obtain⟨z2,its2,n2,r2,hl2,e2⟩:=I.lstM hB
 have hsz:its.toArray.size+its2.toArray.size<=sizeLine:=by rw[List.size_toArray,List.size_toArray];omega
 have hlong:¬ (!its.toArray.isEmpty&&Builtin.List.listTooLong (its.toArray.size+its2.toArray.size))=true:=by
  rw[hK_ hsz,Bool.and_false]
  exact Bool.false_ne_true
 refine call_meets F.slot_list_extend ⟨_,e,rfl⟩ F.entry_list_extend (F.args_list_extend_2 _ _)
  (AutoSeq1.list_extend_list_list_0 l its.toArray n b its2.toArray n2 hlong (by rw[List.size_toArray];omega) (by omega)) ⟨e,e2,?_⟩
 refine⟨.non,_,I.lset (its':=its++its2) hH e (by simp) (r.append r2) ?_,rfl,q⟩
 rw[List.length_append]
 omega
def rCat:R2:=fun x y H Q=>∃l b xs zs,x=.ref l/\y=.ref b/\H l=some (.lst xs)/\H b=some (.lst zs)/\xs.length+zs.length<=sizeLine/\∀p,H p=none->Q (.ref p) (upd H p (.lst (xs++zs)))
theorem cZ_:OpR X (binaryOp .Add) rCat:=by
 intro pins s σ H x y v u Q I rx ry h
 obtain⟨l,b,xs,zs,rfl,rfl,hH,hB,hz,q⟩:=h
 cases rx
 cases ry
 obtain⟨z,its,n,r,hl,e⟩:=I.lstM hH
 obtain⟨z2,its2,n2,r2,hl2,e2⟩:=I.lstM hB
 refine PySem.P.add_list e e2 ?_ (by rw[List.size_toArray,List.size_toArray];omega)
 have ea:its.toArray++its2.toArray=(its++its2).toArray:=by simp
 rw[ea]
 exact⟨.ref _,_,I.lnew (t':=s.toks) (r.append r2) (by rw[List.length_append];omega),rfl,q _ I.fresh⟩
def rRep:R2:=fun x y H Q=>∃l k xs,x=.ref l/\y=.int k/\H l=some (.lst xs)/\-(2 ^ 63)<=k/\k<2 ^ 63/\xs.length*k.toNat<=sizeLine/\
 ∀p,H p=none->Q (.ref p) (upd H p (.lst (List.replicate k.toNat xs).flatten))
theorem of_{α:Type}(xs:List α)(k:Nat):(List.replicate k xs).flatten.length=k*xs.length:=by
 induction k with
 | zero=>simp
 | succ k ih=>rw[List.replicate_succ,List.flatten_cons,List.length_append,ih,Nat.succ_mul,Nat.add_comm]
theorem oR_:OpR X (binaryOp .Mult) rRep:=by
 intro pins s σ H x y v u Q I rx ry h
 obtain⟨l,k,xs,rfl,rfl,hH,h1,h2,hz,q⟩:=h
 cases rx
 obtain⟨t,rfl⟩:=ry
 obtain⟨z,its,n,r,hl,e⟩:=I.lstM hH
 have hlen:its.toArray.size*k.toNat<=sizeLine:=by rw[List.size_toArray,<-hl];exact hz
 have hcap:¬ its.toArray.size*k.toNat>(2 ^ 63-1) / 8:=by
  have:(sizeLine:Nat)<=(2 ^ 63-1) / 8:=by decide
  omega
 have hfit:¬ (!Builtin.List.listFitsIndex k)=true:=by
  rw[fitsIndex_both h1 h2]
  exact Bool.false_ne_true
 have hlong:¬ Builtin.List.listTooLong (its.toArray.size*k.toNat)=true:=by
  rw[hK_ hlen]
  exact Bool.false_ne_true
 have hnew:List.foldl (fun x1 x2=>x1++x2) #[] (List.replicate (if its.toArray.isEmpty=true then 0 else k.toNat) its.toArray)=(List.replicate k.toNat its).flatten.toArray:=by
  have f0:∀m:Nat,List.foldl (fun x1 x2=>x1++x2) #[] (List.replicate m its.toArray)=(List.replicate m its).flatten.toArray:=fun m=>by
   have:=fG_ its m []
   rw[List.nil_append] at this
   exact this
  rw[f0]
  cases its with
  | nil=>simp
  | cons a r'=>rw[if_neg (by simp)]
 refine wpAny_binaryOp_repeat_ref (T:="list") (U:="int") (by decide) ⟨_,e,rfl⟩ (fun s'=>typeIs_int s' k t) noFill_list_mul F.fills_int_mul F.slot_int_rmul repeat_list F.slot_int_index.lookup
  (call_meets F.slot_int_rmul (typeIs_int s k t) F.entry_int_rmul (F.args_int_rmul_2 _ _) (int___rmul___int_list k t l its.toArray n)
   ⟨e,rfl,⟨_,e,rfl⟩,call_meets F.slot_list_mul ⟨_,e,rfl⟩ F.entry_list_mul (F.args_list_mul_2 _ _) (AutoListH.list___mul___list_int_3 l its.toArray n k t hfit hcap hlong) ⟨e,?_⟩⟩)
 rw[hnew]
 exact⟨.ref _,_,I.lnew (t':=s.toks) (r.rep k.toNat) (by rw[of_,Nat.mul_comm];exact hz),rfl,q _ I.fresh⟩
end
section
variable{prog:Program}{w:World}{A:Around}{E:Value->Shared->Prop}{s:Shared}
end
section
variable{X:Cx}
end
end L2
namespace Att
open PySem PySem.W PySem.Calls PyProof.Rows
theorem de_{P:Params}{h:Heap}:∀(ns:List Int) (vs:List Value),WellAll P h vs (ns.map WData.int)->IntsAre vs ns:=by
 intro ns
 induction ns with
 | nil =>
  intro vs w
  rw[List.map_nil] at w
  cases w
  exact .nil
 | cons n ns ih =>
  intro vs w
  rw[List.map_cons] at w
  cases w with
  | cons a b =>
   cases a
   exact .cons _ _ (ih _ b)
theorem ju_{l:OpenLaw}{n:Nat}(hn:l.most=some n){P:Params}{h:Heap}{args:List WData}{vals:List Value}
  (hpre:l.row.toRowW.claim.pre args=true) (hwl:WellAll P h vals args) :
  ∃a vs ns,vals=[Value.ref a]/\args=[WData.list (ns.map WData.int)]/\h.get? a=some {cls:=.type "list",data:=.seq vs.toArray}/\IntsAre vs ns/\ns.length<=n:=by
 have hsh:WShape.hasAll [] args [.list .int]=true:=(pre_splitW hpre).1
 have hc:l.pre.holds [] {args:=args}=true:=(pre_splitW hpre).2
 obtain⟨d,r,rfl,h1,h2⟩:=hasAllW_cons hsh
 obtain rfl:=hasAllW_nil h2
 obtain⟨xs,rfl,h3⟩:=hasW_list h1
 obtain⟨ns,rfl⟩:=items_int h3
 have hlen:ns.length<=n:=by
  unfold OpenLaw.pre at hc
  have h4:(WTm.not (.lt (.lit (.int (n:Int))) (.len (.arg 0)))).holds [] {args:=[.list (ns.map .int)]}=true:=by
   have h4:=(holds_andW hc).1
   rw[hn] at h4
   exact h4
  have h5:=condW_of h4 (w_not (w_lt w_lit (w_len_list (w_arg rfl))))
  rw[List.length_map] at h5
  refine Nat.le_of_not_lt fun q=>?_
  have q':(n:Int)<((ns.length:Nat):Int):=by omega
  first
   | (rw[decide_eq_true q'] at h5;exact absurd h5 (by decide))
   | (simp at h5;omega)
 cases hwl with
 | cons w1 w2 =>
  cases w2
  cases w1 with
  | list ho hall=>exact⟨_,_,ns,rfl,rfl,ho,de_ ns _ hall,hlen⟩
theorem jP_(l:OpenLaw)(args:List WData):l.row.toRowW.claim.post args (.bool true) args=true :=
 postW_of (r:=l.row.toRowW) (X:=(true==true))
  (show WShape.has [] (.bool true) .bool=true by first | rfl | decide | simp[WShape.has,WShape.arms,WShape.armsAll])
  (show(WTm.eq .res (.lit (.bool true))).value [] {args:=args,res:=some (.bool true),after:=args}=some (.bool (true==true)) from w_eq_bool (w_res rfl) w_lit) rfl
theorem attach_call{l:OpenLaw}{n:Nat}{q:Program}{loose:List Str}{XP:(Str->Option Value)->Heap->Prop}{YP:World->Heap->Prop}{d:DefRec}
  (hn:l.most=some n) (hdf:d.params.defaults=[])
  (call:∀(w:World) (s₀ s₁:Shared) (mg mb:Str->Option Value) (fa:Addr) (o:Obj) (pm cd doc:Value) (a:Addr) (vs:List Value) (ns:List Int),
   Ground q loose [] XP w s₀ mg mb s₁.heap->YP w s₁.heap->
   s₁.heap.get? fa=some o->o.data=.func (docDef d.name d.params d.body d.scope pm cd doc)->s₁.heap.CodeRec cd d.name->mg d.name=some (.ref fa)->
   s₁.heap.get? a=some {cls:=.type "list",data:=.seq vs.toArray}->IntsAre vs ns->ns.length<=n->s₁.gens=#[]->
   codeAny (model l.prog w) callerA (.call (.ref fa) ⟨[.ref a],[]⟩) (fun r s'=>r=.ok (.ret (.bool true))/\OldK s₁.heap s'.heap/\s'.os=s₁.os/\AllBare s'.gens) s₁) :
  WalkO q loose XP YP l.row.toRowW d [] (fun f vs=>PySem.call f vs):=by
 intro w s₀ s₁ mg mb G Y fa o pm cd doc dV kV ho hd hcd hD hmg hg args vals as hpre hlay hrd hwl hlo
 obtain rfl:dV=.none:=Dflts.none hD hdf
 obtain rfl:kV=.none:=Dflts.noKw hD
 obtain⟨a,vs,ns,rfl,rfl,hobj,hints,hlen⟩:=ju_ hn hpre hwl
 refine enter_call (codeAny_mono (call w s₀ s₁ mg mb fa o pm cd doc a vs ns G Y ho (fd_plain hd) hcd hmg hobj hints hlen hg) fun r s' hq=>?_)
 obtain⟨rfl,h2,h3,h4⟩:=hq
 exact⟨.inl ⟨.bool true,.bool true,[],rfl,fun _=>rfl,.bool true,jP_ l _,fun _=>⟨List.Pairwise.nil,fun _ hm=>(nomatch hm)⟩⟩,h2,h3,h4⟩
section
variable{prog:Program}{w:World}{A:Around}{E:Value->Shared->Prop}{s:Shared}{K:Frag}
def ledger(h:Heap)(L d:Addr):List (Addr×Obj):=(List.range h.objs.size).filterMap fun a=>if a=L\/a=d then none else (h.get? a).map fun o=>(a,o)
end
end Att
namespace L2
open PySem PySem.Spec PyProof.Rows
theorem eP_{vs:List Value}{ns:List Int}(h:IntsAre vs ns):Vals (ns.map V.int) vs:=by
 induction h with
 | nil=>exact .nil
 | cons n t _ ih=>exact .cons ⟨t,rfl⟩ ih
def Only(H:Hp):Prop:=∀b,H b=none\/∃o xs,H b=some (.frz o (.lst xs))
theorem lT_{P:Program}{w:World}{K:PySem.W.Frag}{mg mb:Str->Option Value}{CX:CXT}{k:Nat}{fa a:Addr}{fd:FuncData}{x:Str}{sp:Sp}{s₁:Shared}{vs:List Value}{ns:List Int}
  (KX:K.In s₁.heap) (hns:s₁.heap.Ns mainGlobals mg) (hb:s₁.heap.Ns builtinsNs mb) (hbb:∀x:Str,x≠"__name__"->mb x=bootBuiltins x) (hlim:s₁.heap.NoLimit) (hg:s₁.gens=#[])
  (ha:s₁.heap.get? a=some {cls:=.type "list",data:=.seq vs.toArray}) (hi:IntsAre vs ns) (hl:ns.length<=sizeLine) (hr:Room k callerA)
  (F:∀base:Heap,K.In base->base.Ns mainGlobals mg->FnOk P w K mg base CX k fa fd [x] sp) (hbind:∀(s:Shared) (u:Value),BindsTo s fd ⟨[u],[]⟩ [(x,u)])
  (hsp:∀H:Hp,Only H->SqL K H a (ns.map V.int)->sp [.ref a] H (fun v _=>v=.bl true) fun _ _ _=>False)
  (hCX:∀H e s',CX [] H s₁ (fun _ _ _=>False) e s'->False) :
  codeAny (model P w) callerA (.call (.ref fa) ⟨[.ref a],[]⟩) (fun r s'=>r=.ok (.ret (.bool true))/\OldK s₁.heap s'.heap/\s'.os=s₁.os/\AllBare s'.gens) s₁:=by
 have rv:=eP_ hi
 have lenV:=hi.length
 have core:∀H:Hp,Only H->SqL K H a (ns.map V.int)->HOk P w H s₁.heap->(∀b,H b≠none->b=a)->(H a≠none->K.lookup a=none)->
   codeAny (model P w) callerA (.call (.ref fa) ⟨[.ref a],[]⟩) (fun r s'=>r=.ok (.ret (.bool true))/\OldK s₁.heap s'.heap/\s'.os=s₁.os/\AllBare s'.gens) s₁:=by
  intro H hO hS hok hA hK
  have base_of:∀ {b:Addr} {o:Obj},s₁.heap.get? b=some o->H b=none->(hidT s₁.heap H).get? b=some o:=fun e n=>lZ_ e n
  have noA:∀ {b:Addr} {o:Obj} {es:Array DictEntry} {ep:Nat},s₁.heap.get? b=some o->o.data=.dict es ep->H b=none:=fun {b o es ep} e d=>by
   cases q:H b with
   | none=>rfl
   | some u =>
    have e':b=a:=hA b (by rw[q];simp)
    subst e'
    rw[ha] at e;cases e
    have d':Data.seq vs.toArray _=Data.dict es ep:=d
    cases d'
  have nsK:∀ {b:Addr} {m:Str->Option Value},s₁.heap.Ns b m->(hidT s₁.heap H).Ns b m:=fun {b m} ⟨o,es,ep,e,d,r⟩=>⟨o,es,ep,base_of e (noA e d),d,r⟩
  have hKb:K.In (hidT s₁.heap H):=fun b o e=>base_of (KX b o e) (by
   cases q:H b with
   | none=>rfl
   | some u =>
    have e':b=a:=hA b (by rw[q];simp)
    subst e'
    rw[hK (by rw[q];simp)] at e;cases e)
  have hM:Mod K mg (hidT s₁.heap H):=⟨hKb,nsK hns,⟨mb,nsK hb,hbb⟩,let ⟨mc,h1,h2⟩:=hlim;⟨mc,nsK h1,h2⟩⟩
  have e0:Env0 P w K mg (hidT s₁.heap H) callerA [] s₁ H:=⟨rfl,hM,fun b o e=>nW_ e,Nat.le_of_eq (kz_ _ _),trivial,fun b hb=>absurd (show b∈([]:List Addr) from hb) (by simp),hok,.of_eq hg⟩
  refine codeAny_mono ((F _ hKb (nsK hns)).run callerA [] s₁ H ⟨[.ref a],[]⟩ [.ref a] [.ref a] _ _ hr e0 (hbind s₁ (.ref a)) (.cons rfl .nil) (hsp H hO hS)) fun r s' h=>?_
  cases r with
  | error e=>exact(hCX H e s' h).elim
  | ok fl =>
   cases fl with
   | next=>exact False.elim h
   | brk=>exact False.elim h
   | cont=>exact False.elim h
   | ret u =>
    obtain⟨v,H',os,bare,un,hok',r',q⟩:=h
    have q':v=.bl true:=q
    subst q'
    obtain rfl:u=Value.bool true:=r'
    refine⟨rfl,OldK.of_keep fun b o e=>?_,os,bare⟩
    cases q:H b with
    | none=>exact un.keep b o e q (by intro z;exact absurd (show b∈([]:List Addr) from z) (by simp)) (by simp)
    | some u =>
     rcases hO b with z | ⟨ob,xs,z⟩
     ·rw[q] at z;cases z
     ·have z2:=un.frzs b ob _ z
      obtain⟨e1,_⟩:=hok b _ z
      obtain⟨e2,_⟩:=hok' b _ z2
      rw[e] at e1;cases e1
      exact e2
 cases hk:K.lookup a with
 | some o =>
  have e:=KX a o hk
  rw[ha] at e
  cases e
  refine core (fun _=>none) (fun _=>.inl rfl) (.inr ⟨_,vs.toArray,_,hk,rfl,rfl,rfl,by rw[List.size_toArray,lenV];exact hl,by simpa using rv⟩) (fun b u z=>by have z':(none:Option HO)=some u:=z;cases z') (fun b z=>absurd rfl z) fun z=>absurd rfl z
 | none =>
  refine core (fun b=>if b=a then some (.frz {cls:=.type "list",data:=.seq vs.toArray} (.lst (ns.map V.int))) else none) (fun b=>?_) (.inl (.inr ⟨{cls:=.type "list",data:=.seq vs.toArray},if_pos rfl⟩)) (fun b u z=>?_) (fun b z=>?_) fun _=>hk
  ·by_cases hb:b=a
   ·exact .inr ⟨_,_,if_pos hb⟩
   ·exact .inl (if_neg hb)
  ·by_cases hb:b=a
   ·have z':=(if_pos hb).symm.trans z
    cases z'
    subst hb
    exact⟨ha,by rw[List.length_map];exact hl,vs,_,rv,ha⟩
   ·have z':=(if_neg hb).symm.trans z
    cases z'
  ·by_cases hb:b=a
   ·exact hb
   ·exact absurd (if_neg hb) z
abbrev KOf{K:PySem.W.Frag}{h:Heap}(_:K.In h):PySem.W.Frag:=K
theorem no_{l:PySem.W.OpenLaw}{n k:Nat}{q:Program}{loose:List Str}{XP:(Str->Option Value)->Heap->Prop}{YP:World->Heap->Prop}{d:DefRec}{K:Params->PySem.W.Frag}{CX:World->CXT}{sp:World->Sp}{x:Str}
  (hn:l.most=some n) (hn2:n<=sizeLine) (hdf:d.params.defaults=[]) (hr:Room k callerA)
  (hY:∀(w:World) (h:Heap),YP w h->(K w.params).In h)
  (F:∀(w:World) (mg:Str->Option Value) (fa:Addr) (h:Heap),(K w.params).In h->h.Ns mainGlobals mg->mg d.name=some (.ref fa)->
   ∃fd:FuncData,(∀(s:Shared) (u:Value),BindsTo s fd ⟨[u],[]⟩ [(x,u)])/\
    ∀base:Heap,(K w.params).In base->base.Ns mainGlobals mg->FnOk l.prog w (K w.params) mg base (CX w) k fa fd [x] (sp w))
  (hsp:∀(w:World) (H:Hp) (a:Addr) (ns:List Int),ns.length<=n->Only H->SqL (K w.params) H a (ns.map V.int)->sp w [.ref a] H (fun v _=>v=.bl true) fun _ _ _=>False)
  (hCX:∀(w:World) (H:Hp) (s:Shared) (e:Value) (s':Shared),CX w [] H s (fun _ _ _=>False) e s'->False) :
  PySem.W.WalkO q loose XP YP l.row.toRowW d [] (fun f vs=>PySem.call f vs):=by
 refine Att.attach_call hn hdf fun w s₀ s₁ mg mb fa o pm cd doc a vs ns G Y ho hd hcd hmg hobj hints hlen hg=>?_
 have KX:=hY w _ Y
 obtain⟨fd,hb,hF⟩:=F w mg fa _ KX G.T.g hmg
 exact lT_ KX G.T.g G.T.b G.T.builtins G.T.nolimit hg hobj hints (Nat.le_trans hlen hn2) hr hF hb (fun H hO hS=>hsp w H a ns hlen hO hS) fun H e s'=>hCX w H s₁ e s'
def bc_(s:Stmt):Arguments:=match s with
 | .FunctionDef _ a _ _ _ _ _ _ _ _=>a
 | _=>{posonlyargs:=[],args:=[],vararg:=none,kwonlyargs:=[],kw_defaults:=[],kwarg:=none,defaults:=[]}
def O_(s:Stmt):List Stmt:=match s with
 | .FunctionDef _ _ b _ _ _ _ _ _ _=>b
 | _=>[]
def h_(s:Stmt):Scope:=match s with
 | .FunctionDef _ _ _ _ _ _ sc _ _ _=>sc
 | _=>{kind:=.function,names:=[],isGenerator:=false,isCoroutine:=false}
abbrev CX0:CXT:=fun _ _ _ _ _ _=>False
abbrev E0:XK:=fun _ _ _=>False
theorem pass0{X:Cx}:Passes CX0 X E0:=fun _ _ _ _ _ _ _ h=>h.elim
structure Fun(K:PySem.W.Frag)(x qual:Str)(st:Stmt)(f:Addr)(fd:FuncData):Prop where
 ex:∃(oc:Value) (od:Option Addr) (kV doc pm:Value) (an:Option Addr) (cdv ct:Value) (osl:Array (Option Value)),
  fd=PySem.W.fnOf x qual (bc_ st) (O_ st) (h_ st) .none kV doc pm an cdv ct/\K.lookup f=some ⟨oc,od,.func fd,osl⟩/\PySem.W.codeIn K cdv qual=true
 kp:PySem.W.keepIn K (.ref f)=true
section
variable{P:Program}{w:World}{K:PySem.W.Frag}{mg:Str->Option Value}{base:Heap}
theorem Fun.ok{x qual:Str}{st:Stmt}{f:Addr}{fd:FuncData}{N ps:List Str}{k:Nat}{sp:Sp}(F:Fun K x qual st f fd)(S:FnScope N ps (h_ st))(len:∀vs H Q E,sp vs H Q E->vs.length=ps.length)
  (hbody:∀(cdv:Value) (A:Around) (outer:List Env) (s:Shared) (H:Hp) (vs:List V) (Q:VK) (E:XK),Room k (A.deeper (envOfC qual (h_ st) s.heap.objs.size f cdv))->sp vs H Q E->
   ∃t,PSs (cxOf CX0 P w K mg base N qual (h_ st) f cdv A outer s H E).nox (O_ st) t/\t {nx:=fun _ H'=>Q .non H',rt:=Q} (start N vs) H):FnOk P w K mg base CX0 (k+1) f fd ps sp:=by
 obtain⟨oc,od,kV,doc,pm,an,cdv,ct,osl,rfl,lk,hcd⟩:=F.ex
 refine ps_ lk hcd S len fun A outer s H vs Q E hr hsp=>?_
 obtain⟨t,h,q⟩:=hbody cdv A outer s H vs Q E hr hsp
 exact⟨t,h.nox,q⟩
theorem Fun.binds{x qual:Str}{st:Stmt}{f:Addr}{fd:FuncData}{ps:List Str}(F:Fun K x qual st f fd)
  (h:∀(kV doc pm:Value) (an:Option Addr) (cdv ct:Value) (us:List Value),us.length=ps.length->bindArgs (PySem.W.fnOf x qual (bc_ st) (O_ st) (h_ st) .none kV doc pm an cdv ct) ⟨us,[]⟩=pure (ps.zip us)):Binds K fd ps []:=by
 obtain⟨oc,od,kV,doc,pm,an,cdv,ct,osl,rfl,lk,hcd⟩:=F.ex
 exact .all (h kV doc pm an cdv ct)
theorem kC_{x qual:Str}{st:Stmt}{f:Addr}{oc:Value}{od an:Option Addr}{osl:Array (Option Value)}{kV doc pm cdv ct:Value}(l:K.lookup f=some ⟨oc,od,.func (PySem.W.fnOf x qual (bc_ st) (O_ st) (h_ st) .none kV doc pm an cdv ct),osl⟩)
  (c:PySem.W.codeIn K cdv qual=true) (k:PySem.W.keepIn K (.ref f)=true):Fun K x qual st f (PySem.W.fnOf x qual (bc_ st) (O_ st) (h_ st) .none kV doc pm an cdv ct):=⟨⟨oc,od,kV,doc,pm,an,cdv,ct,osl,rfl,l,c⟩,k⟩
end
theorem fE_{A:Around}{k:Nat}(hr:Room k A):A.units+1<cLine:=Nat.lt_of_le_of_lt (Nat.add_le_add_left (by decide:1<=64) _) hr.units
section
variable{X:Cx}
theorem pv(i:Nat){x:Str}{pos:Pos}(hN:X.N[i]?=some x:=by rfl)(hv:Vis X.env.scope x:=by first | exact Or.inl rfl | exact Or.inr (Or.inl rfl) | exact Or.inr (Or.inr rfl))(hd:(x==("__debug__":Str))=false:=by decide)
  (hcd:(x==("__classdict__":Str))=false:=by decide):PE X (.Name x pos) (tVar i):=oL_ hN hv hd hcd
end
theorem iteF{A B:Prop}(h:B):if false=true then A else B:=by
 rw[if_neg Bool.false_ne_true]
 exact h
theorem iteT{A B:Prop}(h:A):if true=true then A else B:=by
 rw[if_pos rfl]
 exact h
theorem ite2{c A B:Prop}[Decidable c](h1:c->A)(h2:¬ c->B):if c then A else B:=by
 by_cases h:c
 ·rw[if_pos h]
  exact h1 h
 ·rw[if_neg h]
  exact h2 h
theorem iteNS{c A B:Prop}[Decidable c](hc:c)(h:B):if (!decide c)=true then A else B:=by
 rw[decide_eq_true hc]
 exact iteF h
def Same(H H':Hp):Prop:=∀b o,H b=some o->H' b=some o
theorem Same.refl(H:Hp):Same H H:=fun _ _ h=>h
theorem Same.trans{H H1 H2:Hp}(a:Same H H1)(b:Same H1 H2):Same H H2:=fun c o h=>b c o (a c o h)
theorem Same.free{H H':Hp}(e:Same H H'){l:Addr}(h:H' l=Option.none):H l=Option.none:=by
 cases q:H l with
 | none=>rfl
 | some o =>
  rw[e l o q] at h
  cases h
theorem Same.seq{K:PySem.W.Frag}{H H':Hp}{a:Addr}{xs:List V}(e:Same H H')(h:SqL K H a xs):SqL K H' a xs:=by
 rcases h with(h | ⟨o,h⟩) | h
 ·exact .inl (.inl (e _ _ h))
 ·exact .inl (.inr ⟨o,e _ _ h⟩)
 ·exact .inr h
end L2
set_option maxHeartbeats 4000000
namespace L2
open PySem PySem.Spec PyProof.Rows
theorem hX_{al be:Type}{l:List al}{f:al->be->Sem (ForInStep be)}(R:List al->be->Prop):∀(pre rest:List al) (c:be),l=pre++rest->R pre c->
  (∀pre x post c,l=pre++x::post->R pre c->∃d,f x c=pure (.yield d)/\R (pre++[x]) d)->∃d,forIn rest c f=pure d/\R l d
 | pre,[],c,e,h0,_=>⟨c,rfl,by rw[e,List.append_nil];exact h0⟩
 | pre,x::rest,c,e,h0,h=>by
  obtain⟨d,e1,r1⟩:=h pre x rest c e h0
  obtain⟨d',e2,r2⟩:=hX_ R (pre++[x]) rest d (by rw[e];simp) r1 h
  exact⟨d',by rw[List.forIn_cons,e1,pure_bind];exact e2,r2⟩
theorem id_{scope:Scope}{env:Env}(h:∀y,(y,NameKind.free)∈scope.names->∃c,env.cells.lookup y=some c) :
  ∃cl,closureFor scope env=pure cl/\(∀y c,cl.lookup y=some c->env.cells.lookup y=some c)/\∀y,(y,NameKind.free)∈scope.names->∃c,cl.lookup y=some c:=by
 have key:=hX_ (l:=scope.names) (be:=List (Str×Addr)) (f:=fun x r=>if (x.2==NameKind.free)=true then do let a <-cellOf env x.1;pure (ForInStep.yield ((x.1,a)::r)) else pure (ForInStep.yield r))
  (fun pre cs=>(∀y c,cs.lookup y=some c->env.cells.lookup y=some c)/\∀y,(y,NameKind.free)∈pre->∃c,cs.lookup y=some c) [] scope.names [] (by simp)
  ⟨fun y c e=>by simp at e,fun y hy=>by simp at hy⟩ (by
   rintro pre ⟨n,k⟩ post cs e ⟨r1,r2⟩
   by_cases hk:k=NameKind.free
   ·subst hk
    obtain⟨c,hc⟩:=h n (by rw[e];simp)
    refine⟨(n,c)::cs,?_,fun y d q=>?_,fun y hy=>?_⟩
    ·have hco:cellOf env n=pure c:=by unfold cellOf;rw[hc]
     simp only[beq_self_eq_true,if_true,hco,pure_bind]
    ·by_cases hy:y=n
     ·subst hy
      rw[List.lookup_cons,beq_self_eq_true] at q
      cases q;exact hc
     ·have hb:(y==n)=false:=by simpa using hy
      rw[List.lookup_cons,hb] at q
      exact r1 y d q
    ·by_cases hn:y=n
     ·exact⟨c,by rw[hn,List.lookup_cons,beq_self_eq_true]⟩
     ·have hb:(y==n)=false:=by simpa using hn
      rw[List.lookup_cons,hb]
      refine r2 y ?_
      rcases List.mem_append.mp hy with z | z
      ·exact z
      ·simp at z;exact absurd z hn
   ·refine⟨cs,?_,r1,fun y hy=>r2 y ?_⟩
    ·have hb:(k==NameKind.free)=false:=by simpa using hk
     simp only[hb,Bool.false_eq_true,if_false]
    ·rcases List.mem_append.mp hy with z | z
     ·exact z
     ·simp at z;exact absurd z.2.symm hk)
 obtain⟨cl,e,r⟩:=key
 refine⟨cl,?_,r⟩
 have e':closureFor scope env=forIn scope.names ([]:List (Str×Addr)) (fun x r=>if (x.2==NameKind.free)=true then do let a <-cellOf env x.1;pure (ForInStep.yield ((x.1,a)::r)) else pure (ForInStep.yield r)):=by
  simp only[closureFor,bind_pure]
 rw[e',e]
def Cx.cmp(X:Cx)(N:List Str)(scope:Scope)(cl:List (Str×Addr))(C:Addr)(s:Shared)(H:Hp)(fp:List Addr):Cx where
 prog:=X.prog
 w:=X.w
 K:=X.K
 mg:=X.mg
 base:=X.base
 A:=X.A
 N:=N
 s₀:=s
 H₀:=H
 env:=compEnvC scope cl C X.env
 outer:=X.stack
 stack:=X.stack
 ex:=fp
 fn:=fun _=>false
 calm:=X.calm
 pn:=[]
 xe:=fun _ _=>False
theorem hR_{names:List (Str×NameKind)}{q:Str->NameKind->Bool}{y:Str}:(names.map fun(n,k)=>if q n k=true then (n,NameKind.cell) else (n,k)).lookup y=(names.lookup y).map fun k=>if q y k=true then NameKind.cell else k:=by
 induction names with
 | nil=>rfl
 | cons p r ih =>
  obtain⟨n,k⟩:=p
  rw[List.map_cons]
  by_cases hy:y=n
  ·subst hy
   by_cases hq:q y k=true
   ·simp[List.lookup_cons,hq]
   ·simp[List.lookup_cons,hq]
  ·have hb:(y==n)=false:=by simpa using hy
   by_cases hq:q n k=true
   ·simp only[hq,if_true,List.lookup_cons,hb];exact ih
   ·simp only[hq,Bool.false_eq_true,if_false,List.lookup_cons,hb];exact ih
section
variable{X:Cx}{pins:List (Addr×Obj)}{σ:St}{H:Hp}{s:Shared}{fp:List Addr}{scope:Scope}{cl:List (Str×Addr)}{N:List Str}{C:Addr}
structure CmpScope(X:Cx)(N:List Str)(scope:Scope):Prop where
 kind:scope.kind=.function
 nocell:∀y∈scope.names,y.2≠.cell
 loc:∀y∈scope.names,y.2=.local->scope.names.lookup y.1=some .local
 fre:∀y,scope.names.lookup y=some .free->X.env.kindOf y=some .cell
 fre2:∀y,(y,NameKind.free)∈scope.names->X.env.kindOf y=some .cell
 nd:N.Nodup
 at0:∀y,scope.names.lookup y=some .free->(y,NameKind.free)∈scope.names
theorem pw_(S:CmpScope X N scope)(I:Inv X pins σ H s)(hf:∀b∈fp,FpOk X pins H b)(ho:∀b∈fp,∃o,s.heap.get? b=some o)(hcl:∀y c,cl.lookup y=some c->X.env.cells.lookup y=some c)
  (hcf:∀y,(y,NameKind.free)∈scope.names->∃c,cl.lookup y=some c) (hC:s.heap.objs.size<=C):(X.cmp N scope cl C s H fp).Ok where
 mod:=I.ok.mod
 kind:=S.kind
 glob:=I.ok.glob
 blt:=I.ok.blt
 above:=hC
 inj:=fun x y c h1 h2=>I.ok.inj x y c (hcl x c h1) (hcl y c h2)
 has:=fun y hy=>by
  have hy':(relabel scope X.env).names.lookup y=some .cell\/(relabel scope X.env).names.lookup y=some .free:=hy
  have e:(relabel scope X.env).names.lookup y=(scope.names.lookup y).map fun k=>if (k==.free&&X.env.scope.kind==.function&&X.env.kindOf y==some .cell)=true then NameKind.cell else k :=
   hR_ (q:=fun n k=>k==.free&&X.env.scope.kind==.function&&X.env.kindOf n==some .cell)
  rw[e] at hy'
  cases q:scope.names.lookup y with
  | none=>rw[q] at hy';simp at hy'
  | some k =>
   by_cases hk:k=NameKind.free
   ·subst hk
    exact hcf y (S.at0 y q)
   ·exfalso
    have hb:(k==NameKind.free)=false:=by simpa using hk
    rw[q] at hy'
    simp only[Option.map_some,hb,Bool.false_and,Bool.false_eq_true,if_false,Option.some.injEq] at hy'
    rcases hy' with z | z
    ·exact S.nocell _ (PySem.mem_of_lookup q) z
    ·exact hk z
 cab:=fun y c h _=>nomatch h
 hd:=I.ok.hd
 frames:=I.ok.frames
 stk:=.inl rfl
 exf:=fun b hb=>by
  obtain⟨o,e⟩:=ho b hb
  obtain⟨_,_,_,_,f4,_⟩:=hf b hb
  exact⟨Nat.ne_of_lt (Nat.lt_of_lt_of_le (Heap.lt_size e) hC),fun x c q=>f4 x c (hcl x c q)⟩
 bs:=I.bs
 bsz:=Nat.le_trans I.ok.bsz I.sz
 noex:=fun b o e hb=>by
  obtain⟨_,_,_,f3,_,_⟩:=hf b hb
  rcases f3 with z | z
  ·exact I.ok.noex b o e z
  ·exact absurd (Nat.lt_of_lt_of_le (Heap.lt_size e) (Nat.le_trans I.ok.bsz z)) (Nat.lt_irrefl _)
 exfs:=fun b hb z=>by
  obtain⟨_,f1,f2,_⟩:=hf b hb
  rcases List.mem_cons.mp (I.stkSub b z) with e | e
  ·exact f1 e
  ·exact f2 e
 funs:=I.stack
 frf:=I.stkFree
def aE_(k:Nat)(fr:List Nat)(σ:St):St:=List.replicate k none++fr.map fun i=>(σ[i]?).join
structure CmpFree(X:Cx)(N:List Str)(scope:Scope)(k:Nat)(fr:List Nat):Prop where
 len:N.length=k+fr.length
 at1:∀(j i:Nat) (y:Str),fr[j]?=some i->N[k+j]?=some y->X.N[i]?=some y/\scope.names.lookup y=some .free
theorem kX_(S:CmpScope X N scope){k:Nat}{fr:List Nat}(F:CmpFree X N scope k fr)(I:Inv X pins σ H s)(hf:∀b∈fp,FpOk X pins H b)(ho:∀b∈fp,∃o,s.heap.get? b=some o)
  (hcl:∀y c,cl.lookup y=some c->X.env.cells.lookup y=some c) (hcf:∀y,(y,NameKind.free)∈scope.names->∃c,cl.lookup y=some c) (hC:s.heap.objs.size<=C)
  {s1:Shared} {m:Str->Option Value} {D:Addr} {oD:Obj} (hos:s1.os=s.os) (hg:s1.gens=s.gens) (kp:∀b o,s.heap.get? b=some o->s1.heap.get? b=some o) (hn:s1.heap.Ns C m)
  (hD:s1.heap.get? D=some oD) (hD0:s.heap.objs.size<=D) (hDC:D≠C) (hdc:∀v,oD.data≠.cell v) :
  Inv (X.cmp N scope cl C s H fp) [(D,oD)] (aE_ k fr σ) H s1:=by
 have hfs:D∉frs X.stack:=fun z=>by
  obtain⟨_,o,q,_⟩:=I.stack.mem z
  exact absurd (Nat.lt_of_lt_of_le (Heap.lt_size q) hD0) (Nat.lt_irrefl _)
 refine⟨pw_ S I hf ho hcl hcf hC,hos,by rw[hg];exact I.bare,Un.kept kp,⟨m,hn,fun i x v e1 e2 e3=>?_⟩,fun y c e=>?_,I.hok.fresh hC,fun y c e=>I.freeC y c (hcl y c e),fun p hp=>?_,I.hok.kept kp,?_⟩
 ·
  unfold aE_ at e2
  by_cases hi:i<k
  ·rw[List.getElem?_append_left (by simpa using hi),List.getElem?_replicate] at e2
   split at e2 <;> cases e2
  ·obtain⟨j,rfl⟩:∃j,i=k+j:=⟨i-k,by lia⟩
   rw[List.getElem?_append_right (by simp),List.length_replicate,Nat.add_sub_cancel_left,List.getElem?_map] at e2
   cases q:fr[j]? with
   | none=>rw[q] at e2;cases e2
   | some i' =>
    rw[q] at e2
    have e2':(σ[i']?).join=some v:=Option.some.inj e2
    obtain⟨a1,a2⟩:=F.at1 j i' x q e1
    have hk:=S.fre x a2
    obtain⟨m0,hn0,hl0⟩:=I.loc
    have hv:σ[i']?=some (some v):=by
     cases z:σ[i']? with
     | none=>rw[z] at e2';cases e2'
     | some w=>rw[z] at e2';rw[show w=some v from e2']
    obtain⟨u,r,l⟩:=hl0 i' x v a1 hv (.inr (.inl hk))
    refine⟨u,r,.inr ⟨.inl ?_,?_⟩⟩
    ·show(relabel scope X.env).names.lookup x=some .cell
     have e:(relabel scope X.env).names.lookup x=(scope.names.lookup x).map fun k=>if (k==.free&&X.env.scope.kind==.function&&X.env.kindOf x==some .cell)=true then NameKind.cell else k :=
      hR_ (q:=fun n k=>k==.free&&X.env.scope.kind==.function&&X.env.kindOf n==some .cell)
     rw[e,a2,hk,I.ok.kind]
     rfl
    ·obtain⟨c,hc⟩:=hcf x (S.at0 x a2)
     refine⟨c,hc,?_⟩
     rcases l with⟨z,_⟩ | ⟨_,c',hc',z⟩
     ·rw[hk] at z;cases z
     ·have ec:=hcl x c hc
      rw[hc'] at ec;cases ec
      obtain⟨o,ho,hd⟩:=z
      exact⟨o,kp _ _ ho,hd⟩
 ·obtain⟨v,o,q,d⟩:=I.cell y c (hcl y c e)
  exact⟨v,o,kp _ _ q,d⟩
 ·have hp':p=(D,oD):=by simpa [Cx.cmp] using hp
  subst hp'
  exact⟨hD,I.hok.fresh hD0,hDC,hfs,hdc⟩
 ·unfold aE_
  show _=N.length
  rw[List.length_append,List.length_replicate,List.length_map,F.len]
abbrev lstO(its:List Value)(n:Nat):Obj:={cls:=.type "list",data:=.seq its.toArray n}
theorem ib_{σ':St}{H':Hp}{s':Shared}{D:Addr}{its:List Value}{n:Nat}{ys:List V}(I:Inv X pins σ H s)(hf:∀b∈fp,FpOk X pins H b)(J:Inv (X.cmp N scope cl C s H fp) [(D,lstO its n)] σ' H' s')(r:Vals ys its)
  (hz:ys.length<=sizeLine) (hD0:s.heap.objs.size<=D):H' D=none/\Inv X pins σ (upd H' D (.lst ys)) s':=by
 obtain⟨e1,hn,_,_,_⟩:=J.pin (D,lstO its n) (by simp[Cx.cmp])
 have e1:s'.heap.get? D=some (lstO its n):=e1
 have hn:H' D=none:=hn
 have u:=J.base
 have neD:∀b o,s.heap.get? b=some o->b≠D:=fun b o q=>Nat.ne_of_lt (Nat.lt_of_lt_of_le (Heap.lt_size q) hD0)
 have u':Un (frs X.stack) fp H (upd H' D (.lst ys)) s.heap s'.heap :=
  ⟨u.keep,u.slot,fun b o q z hx=>by rw[l_ (neD b o q)];exact u.free b o q z hx,u.there,fun b xs q=>by rw[l_ (k_ (u.tups b xs q) hn)];exact u.tups b xs q,
   fun b o x q=>by rw[l_ (k_ (u.frzs b o x q) hn)];exact u.frzs b o x q,fun b ps q=>by
    obtain⟨more,z⟩:=u.tbls b ps q
    exact⟨more,by rw[l_ (k_ z hn)];exact z⟩⟩
 have hok:HOk X.prog X.w (upd H' D (.lst ys)) s'.heap:=fun b o q=>by
  by_cases hb:b=D
  ·subst hb
   rw[c_] at q
   cases q
   exact⟨hz,its,n,r,e1⟩
  ·rw[l_ hb] at q
   exact(J.hok b o q).stay (fun c v _ z=>z) (fun c z=>by rw[l_ (k_ z hn)];exact z) fun c xs z=>by rw[l_ (k_ z hn)];exact z
 refine⟨hn,?_⟩
 have os:=J.os
 have bare:=J.bare
 obtain⟨hh,g,d,t,os'⟩:=s'
 obtain rfl:os'=s.os:=os
 exact I.call (h':=hh) (g':=g) (d':=d) (t':=t) (ch:=fp) u' hok bare fun b hb=>by
  obtain⟨_,f1,_,f3,f4,f5⟩:=hf b hb
  exact⟨f3,f1,f4,f5⟩
end
def PF(X:Cx)(ifs:List Expr)(t:TT):Prop :=
 ∀(pins:List (Addr×Obj)) (s:Shared) (σ:St) (H:Hp) (Q:Bool->Hp->Prop),Inv X pins σ H s->t σ H Q->
  wpAny (model X.prog X.w) X.A (forIn ifs true fun c r=>if r=true then do let ok <-isTrue c X.env (eval c X.env);pure (ForInStep.yield ok) else pure (ForInStep.yield r)) (TP X pins σ Q) X.xe s
def tTrue:TT:=fun _ H Q=>Q true H
theorem av_{X:Cx}:PF X [] tTrue:=fun _ _ _ H _ I h=>wpAny_tests_nil ⟨H,I,h⟩
theorem mH_{X:Cx}{c:Expr}{tc:TT}(hc:PT X c tc):PF X [c] tc:=fun pins s σ H Q I h=>wpAny_tests_one (hc pins s σ H Q I h)
section
variable{prog:Program}{w:World}{A:Around}
theorem noE{al:Type}{t:Sem al}{Q:al->Shared->Prop}{E:Value->Shared->Prop}{s:Shared}(h:wpAny (model prog w) A t Q (fun _ _=>False) s):wpAny (model prog w) A t Q E s :=
 wpAny_mono h (fun _ _ x=>x) fun _ _ f=>f.elim
theorem ml_{R:Result->Shared->Prop}{s:Shared}{elt tg iter:Expr}{ifs:List Expr}{scope:Scope}{pos:Pos}{it acc:Value}{env:Env}(I:Nat->Shared->Prop)
  (turn:∀n s,I n s->wpAny (model prog w) A (pyNext it) (fun r s1=>(r=none/\R (.ok .next) s1)\/∃v,r=some v/\
   wpAny (model prog w) A (letOwnedTupleGo tg it v) (fun _ s2=>wpAny (model prog w) A (assign tg env v) (fun _ s3 =>
    wpAny (model prog w) A (forIn ifs true fun c r=>if r=true then do let ok <-isTrue c env (eval c env);pure (ForInStep.yield ok) else pure (ForInStep.yield r)) (fun ok s4 =>
     if ok=true then wpAny (model prog w) A (eval elt env) (fun x s5 =>
      wpAny (model prog w) A (call (.builtin "list.append") [acc,x]) (fun _ s6=>∃m,m<n/\I m s6) (fun _ _=>False) s5) (fun _ _=>False) s4
     else ∃m,m<n/\I m s4) (fun _ _=>False) s3) (fun _ _=>False) s2) (fun _ _=>False) s1) (fun _ _=>False) s)
  (n:Nat) (h:I n s):codeAny (model prog w) A (.compLoop (.ListComp elt [⟨tg,iter,ifs,0⟩] scope pos) 0 it acc env) R s:=by
 refine codeAny_loop rfl I (fun n s hI=>?_) n h
 show wpAny _ A ((compTurn (.ListComp elt [⟨tg,iter,ifs,0⟩] scope pos) 0 it acc env).onRaise (fun x=>do noteFrame x env;theTreesLotGoes x)) _ _ s
 refine wpAny_noted ?_
 rw[compTurn_list]
 refine wpAny_bind (wpAny_standAt (wpAny_bind (noE (thn (turn n s hI) fun r s1 h1=>?_))))
 rcases h1 with⟨rfl,h1⟩ | ⟨v,rfl,h1⟩
 ·exact wpAny_pure h1
 ·refine wpAny_bind (noE (thn h1 fun _ s2 h2=>wpAny_bind (noE (thn h2 fun _ s3 h3=>wpAny_bind (noE (thn h3 fun ok s4 h4=>?_))))))
  cases ok with
  | false=>exact wpAny_pure ⟨rfl,h4⟩
  | true=>exact wpAny_bind (wpAny_bind (noE (thn h4 fun x s5 h5=>wpAny_bind (noE (thn h5 fun _ s6 h6=>wpAny_pure (wpAny_pure ⟨rfl,h6⟩))))))
end
def GKeeps(k:Nat)(g:TG):Prop:=∀v σ H Q,g v σ H Q->g v σ H fun σ2 H2=>(σ2.length=σ.length/\∀i,k<=i->σ2[i]?=σ[i]?)/\Q σ2 H2
theorem kA_{k i:Nat}(h:i<k):GKeeps k (gName i):=fun v σ H Q q=>⟨⟨List.length_set,fun j hj=>List.getElem?_set_ne (by lia)⟩,q⟩
def tComp(k:Nat)(fr:List Nat)(wi:TI)(g:TG)(tc:TT)(te:TE):TE:=fun σ H Q=>wi σ H fun J H1=>∃W:Nat->Nat->List V->Hp->Prop,(∃m,W 0 m [] H1)/\∀i m ys H,W i m ys H->
 (J.stop i H/\∀D,H D=none->Q (.ref D) (upd H D (.lst ys)))\/
 (J.go i H/\ys.length<sizeLine/\∃Nx:List V->Hp->Prop,(∀ys' H',Nx ys' H'->∃m',m'<m/\W (i+1) m' ys' H')/\
  ∀x H',J.yld i H x H'->g x (aE_ k fr σ) H' fun σ2 H2=>tc σ2 H2 fun b H3=>if b=true then te σ2 H3 fun y H4=>Nx (ys++[y]) H4 else Nx ys H3)
section
variable{X:Cx}{pins:List (Addr×Obj)}{σ:St}{tg elt iter:Expr}{ifs:List Expr}{scope:Scope}{pos:Pos}{N:List Str}{k:Nat}{fr:List Nat}{wi:TI}{g:TG}{tc:TT}{te:TE}
theorem fO_(S:CmpScope X N scope)(F:CmpFree X N scope k fr)(hc:X.calm=true)
  (hg:∀cl C s H fp,PG (X.cmp N scope cl C s H fp) tg g) (hk:GKeeps k g) (hi:∀cl C s H fp,PF (X.cmp N scope cl C s H fp) ifs tc) (he:∀cl C s H fp,PE (X.cmp N scope cl C s H fp) elt te)
  {s2:Shared} {it:Addr} {fp:List Addr} {tn:Nat->Heap->Prop} {J:It} {H2:Hp} (I:Inv X pins σ H2 s2) (T:Turn X.prog X.w X.K tg J fp it tn) (st:tn 0 s2.heap) (f2:∀b∈fp,FpOk X pins H2 b)
  {W:Nat->Nat->List V->Hp->Prop} {m0:Nat} (w0:W 0 m0 [] H2) {Fin:List V->Hp->Prop}
  (turn:∀i m ys H,W i m ys H->(J.stop i H/\Fin ys H)\/
   (J.go i H/\ys.length<sizeLine/\∃Nx:List V->Hp->Prop,(∀ys' H',Nx ys' H'->∃m',m'<m/\W (i+1) m' ys' H')/\
    ∀x H',J.yld i H x H'->g x (aE_ k fr σ) H' fun σ2 H2=>tc σ2 H2 fun b H3=>if b=true then te σ2 H3 fun y H4=>Nx (ys++[y]) H4 else Nx ys H3))
  {cl:List (Str×Addr)} (hcl:∀y c,cl.lookup y=some c->X.env.cells.lookup y=some c) (hcf:∀y,(y,NameKind.free)∈scope.names->∃c,cl.lookup y=some c)
  {RR:Value->Addr->Result->Shared->Prop} {E:Value->Shared->Prop}
  (hRR:∀D C s' its n ys H' σ',s2.heap.objs.size<=D->s2.heap.objs.size<=C->D≠C->Inv (X.cmp N scope cl C s2 H2 fp) [(D,lstO its n)] σ' H' s'->Vals ys its->ys.length<=sizeLine->Fin ys H'->RR (.ref D) C (.ok .next) s') :
  wpAny (model X.prog X.w) X.A (newList []) (fun acc s3=>wpAny (model X.prog X.w) X.A (newFunctionEnv scope X.env.globals cl [] X.env.qual none .none (some X.env)) (fun cenv s4 =>
   codeAny (model X.prog X.w) X.A (.compStart (.ListComp elt [⟨tg,iter,ifs,0⟩] scope pos) 0 (.ref it) acc {cenv with scope:=relabel scope X.env}) (RR acc cenv.locals) s4) E s3) E s2:=by
 refine wpAny_newObj_type (wpAny_newFunctionEnv S.nocell (by intro y hy;simp at hy) (fun h1 hns sb=>?_) S.kind)
 dsimp only at hns sb⊢
 generalize hG:s2.heap.push {cls:=.type "list",dict:=none,data:=.seq ([]:List Value).toArray}=G at hns sb⊢
 have hC:G.objs.size=s2.heap.objs.size+1:=by rw[<-hG,Heap.size_push]
 have hDC:s2.heap.objs.size≠G.objs.size:=by rw[hC];exact Nat.ne_of_lt (Nat.lt_succ_self _)
 have old:∀b o,s2.heap.get? b=some o->h1.get? b=some o:=fun b o e =>
  sb.extBut b o (by rw[hC];exact Nat.ne_of_lt (Nat.lt_succ_of_lt (Heap.lt_size e))) (Heap.get?_push_of_some _ (hG▸Heap.get?_push_of_some _ e))
 have hacc:h1.get? s2.heap.objs.size=some (lstO [] 0):=sb.extBut _ _ hDC (Heap.get?_push_of_some _ (hG▸Heap.get?_push_size _ rfl))
 have hfo:∀b∈fp,∃o,s2.heap.get? b=some o:=fun b hb=>let ⟨o,e,_⟩:=T.obj 0 _ st b hb;⟨o,e⟩
 have ltD:∀b∈fp,b≠s2.heap.objs.size:=fun b hb=>let ⟨o,e⟩:=hfo b hb;Nat.ne_of_lt (Heap.lt_size e)
 generalize hX:X.cmp N scope cl G.objs.size s2 H2 fp=X'
 have I0:Inv X' [(s2.heap.objs.size,lstO [] 0)] (aE_ k fr σ) H2 {s2 with heap:=h1,toks:=s2.toks+([]:List (Str×Value)).length}:=by
  rw[<-hX]
  exact kX_ S F I f2 hfo hcl hcf (by rw[hC];exact Nat.le_succ _) rfl rfl old hns hacc (Nat.le_refl _) hDC fun v z=>by cases z
 have eP:X'.prog=X.prog:=by rw[<-hX];rfl
 have eW:X'.w=X.w:=by rw[<-hX];rfl
 have eK:X'.K=X.K:=by rw[<-hX];rfl
 have eA:X'.A=X.A:=by rw[<-hX];rfl
 have eC:X'.calm=true:=by rw[<-hX];exact hc
 have eE:X'.env=compEnvC scope cl G.objs.size X.env:=by rw[<-hX];rfl
 have eX:X'.xe=fun _ _=>False:=by rw[<-hX];rfl
 have eF:X'.ex=fp:=by rw[<-hX];rfl
 have eS:X'.s₀=s2:=by rw[<-hX];rfl
 have ePn:X'.pn=[]:=by rw[<-hX];rfl
 have T':Turn X'.prog X'.w X'.K tg J fp it tn:=by rw[eP,eW,eK];exact T
 have hg':PG X' tg g:=by rw[<-hX];exact hg _ _ _ _ _
 have hi':PF X' ifs tc:=by rw[<-hX];exact hi _ _ _ _ _
 have he':PE X' elt te:=by rw[<-hX];exact he _ _ _ _ _
 have stat:∀ {o:Obj} {H':Hp},(∀b∈fp,H' b=none)->∀b∈fp,FpOk X' [(s2.heap.objs.size,o)] H' b:=fun {o H'} hn b hb=>by
  have ok:=I0.ok
  obtain⟨z1,z2⟩:=ok.exf b (by rw[eF];exact hb)
  refine⟨hn b hb,z1,ok.exfs b (by rw[eF];exact hb),.inl (by rw[eF];exact hb),z2,fun p hp=>?_⟩
  rw[ePn] at hp
  have hp':p=(s2.heap.objs.size,o):=by simpa using hp
  rw[hp']
  exact fun z=>ltD b hb z.symm
 have back:∀ {pl:List (Addr×Obj)} {σ6:St} {H6:Hp} {s6:Shared},Inv X' pl σ6 H6 s6->(σ6.length=(aE_ k fr σ).length/\∀i,k<=i->σ6[i]?=(aE_ k fr σ)[i]?)->Inv X' pl (aE_ k fr σ) H6 s6:=fun {pl σ6 H6 s6} I6 ⟨l1,l2⟩ =>
  I6.weak l1.symm fun i v e=>by
   by_cases hik:i<k
   ·unfold aE_ at e
    rw[List.getElem?_append_left (by simpa using hik),List.getElem?_replicate] at e
    split at e <;> cases e
   ·rw[l2 i (by lia)];exact e
 have loop:codeAny (model X.prog X.w) X.A (.compLoop (.ListComp elt [⟨tg,iter,ifs,0⟩] scope pos) 0 (.ref it) (.ref s2.heap.objs.size) (compEnvC scope cl G.objs.size X.env))
   (RR (.ref s2.heap.objs.size) G.objs.size) {s2 with heap:=h1,toks:=s2.toks+([]:List (Str×Value)).length}:=by
  rw[<-eP,<-eW,<-eA,<-eE]
  refine ml_ (fun n s'=>∃i ys its nn H',Inv X' [(s2.heap.objs.size,lstO its nn)] (aE_ k fr σ) H' s'/\Vals ys its/\ys.length<=sizeLine/\tn i s'.heap/\(∀b∈fp,H' b=none)/\W i n ys H') ?_ m0
   ⟨0,[],[],0,H2,I0,.nil,Nat.zero_le _,T.keep _ _ _ st fun b _ o e=>old b o e,fun b hb=>(f2 b hb).1,w0⟩
  rintro n s' ⟨i,ys,its,nn,H',I',rv,hz,st',fr',w'⟩
  rcases turn i n ys H' w' with⟨stop,fin⟩ | ⟨go,hlt,Nx,hN,step⟩
  ·refine thn (T'.done X' rfl rfl rfl eC i _ s' _ H' _ I' (stat fr') st' stop) fun r s1 ⟨hr,I1⟩=>.inl ⟨hr,?_⟩
   rw[<-hX] at I1
   exact hRR _ _ s1 its nn ys H' _ (Nat.le_refl _) (by rw[hC];exact Nat.le_succ _) hDC I1 rv hz fin
  ·refine thn (T'.item X' rfl rfl rfl eC i _ s' _ H' _ I' (stat fr') st' go) fun r s1 ⟨u,hr,h4⟩=>.inr ⟨u,hr,thn h4 fun _ s5 ⟨x,H5,I5,r5,y5,st5,fr5⟩=>?_⟩
   have I5':=I5.pinned (stat fr5) (T.obj _ _ st5)
   have hgx:=hg' _ s5 _ H5 x u _ I5' r5 (hk _ _ _ _ (step x H5 y5))
   rw[eX] at hgx
   refine thn hgx fun _ s6 ⟨σ6,H6,I6,l6,q6⟩=>?_
   have hix:=hi' _ s6 σ6 H6 _ I6 q6
   rw[eX] at hix
   have pinD:∀ {σ7:St} {H7:Hp} {s7:Shared},Inv X' ([(s2.heap.objs.size,lstO its nn)]++cq_ fp s5.heap) σ7 H7 s7->s7.heap.get? s2.heap.objs.size=some (lstO its nn)/\H7 s2.heap.objs.size=none/\s2.heap.objs.size≠X'.env.locals:=fun I7=>by
    obtain⟨z1,z2,z3,_⟩:=I7.pin (s2.heap.objs.size,lstO its nn) (List.mem_append_right _ (List.mem_append_left _ (by simp)))
    exact⟨z1,z2,z3⟩
   have iter2:∀ {σ7:St} {H7:Hp} {s7:Shared},Inv X' ([(s2.heap.objs.size,lstO its nn)]++cq_ fp s5.heap) σ7 H7 s7->tn (i+1) s7.heap/\∀b∈fp,H7 b=none:=fun {σ7 H7 s7} I7 =>
    ⟨T.keep _ _ _ st5 fun b hb o e=>(I7.pin (b,o) (List.mem_append_right _ (List.mem_append_right _ (bz_ hb e)))).1,fun b hb=>by
     obtain⟨o,e,d⟩:=T.obj _ _ st5 b hb
     exact(I7.pin (b,o) (List.mem_append_right _ (List.mem_append_right _ (bz_ hb e)))).2.1⟩
   refine thn hix fun ok s7 ⟨H7,I7,q7⟩=>?_
   cases ok with
   | false =>
    obtain⟨m',hm,w7⟩:=hN _ _ (show Nx ys H7 from q7)
    obtain⟨a1,a2⟩:=iter2 I7
    exact⟨m',hm,i+1,ys,its,nn,H7,back I7.unpinned l6,rv,hz,a1,a2,w7⟩
   | true =>
    have hex:=he' _ s7 σ6 H7 _ I7 (show te σ6 H7 _ from q7)
    rw[eX] at hex
    refine thn hex fun v s8 ⟨y,H8,I8,r8,q8⟩=>?_
    obtain⟨z1,z2,z3⟩:=pinD I8
    obtain⟨a1,a2⟩:=iter2 I8
    obtain⟨m',hm,w8⟩:=hN _ _ q8
    have hl:=rv.length
    refine append_at (hsz:=by show its.toArray.size<=sizeLine;rw[List.size_toArray];lia) z1 fun h9 sb9 hD9=>?_
    have I8':Inv X' (cq_ fp s5.heap) (aE_ k fr σ) H8 s8:=(back I8 l6).pins_of fun p hp=>I8.pin p (List.mem_append_right _ (List.mem_append_right _ hp))
    have I9:Inv X' (cq_ fp s5.heap) (aE_ k fr σ) H8 {s8 with heap:=h9}:=I8'.turned (t':=s8.toks) (it:=s2.heap.objs.size) (fun b o hb e=>(sb9.2 b hb).trans e) z2 z3 (.inr (by rw[eS];exact Nat.le_refl _))
     (fun y c e z=>by
      obtain⟨v',q⟩:=I0.cell y c e
      have hcl':cl.lookup y=some c:=by rw[eE] at e;exact e
      obtain⟨v2,q2⟩:=I.cell y c (hcl y c hcl')
      rw[z] at q2
      exact absurd q2.lt (Nat.lt_irrefl _))
     (fun p hp z=>by
      rw[ePn] at hp
      exact ltD p.1 (fs_ hp).1 z)
    have I9':Inv X' [(s2.heap.objs.size,lstO (its++[v]) (nn+1))] (aE_ k fr σ) H8 {s8 with heap:=h9}:=I9.pins_of fun p hp=>by
     have hp':p=(s2.heap.objs.size,lstO (its++[v]) (nn+1)):=by simpa using hp
     rw[hp']
     refine⟨?_,z2,z3,?_,fun v z=>by cases z⟩
     ·show h9.get? _=_
      rw[hD9]
      simp[lstO]
     ·exact(I8.pin (s2.heap.objs.size,lstO its nn) (List.mem_append_right _ (List.mem_append_left _ (by simp)))).2.2.2.1
    refine⟨m',hm,i+1,ys++[y],its++[v],nn+1,H8,I9',rv.append (.cons r8 .nil),by rw[List.length_append];simp;lia,?_,a2,w8⟩
    exact T.keep _ _ _ a1 fun b hb o e=>(sb9.2 b (ltD b hb)).trans e
 exact codeAny_compStart_list loop (T.self _ 0 _ _ _ (T.keep _ _ _ st fun b _ o e=>old b o e) loop)
theorem kY_{s2 s':Shared}{fp:List Addr}{cl:List (Str×Addr)}{H2 H':Hp}{σ':St}{D C:Addr}{o:Obj}{u:HO}{h':Heap}{σ0:St}(I:Inv X pins σ H2 s2)(hC:s2.heap.objs.size<=C)(hDC:D≠C)
  (J:Inv (X.cmp N scope cl C s2 H2 fp) [(D,o)] σ' H' s') {s9:Shared} (I':Inv X pins σ0 (upd H' D u) s9) (sb:Heap.SameBut C s9.heap h'):Inv X pins σ0 (upd H' D u) {s9 with heap:=h'}:=by
 refine I'.turned (t':=s9.toks) (it:=C) (fun b o hb e=>(sb.2 b hb).trans e) (by rw[l_ (Ne.symm hDC)];exact J.free) (Nat.ne_of_gt (Nat.lt_of_lt_of_le I.lt hC)) (.inr (Nat.le_trans I.sz hC)) (fun y c e z=>?_) fun p hp z=>?_
 ·obtain⟨v,q⟩:=I.cell y c e
  exact absurd (Nat.lt_of_lt_of_le q.lt (by rw[z];exact hC)) (Nat.lt_irrefl _)
 ·exact absurd (Nat.lt_of_lt_of_le (Heap.lt_size (I.pin p hp).1) (by rw[z];exact hC)) (Nat.lt_irrefl _)
theorem gz_(S:CmpScope X N scope)(F:CmpFree X N scope k fr)(hc:X.calm=true)(hit:PI X tg iter wi)
  (hg:∀cl C s H fp,PG (X.cmp N scope cl C s H fp) tg g) (hk:GKeeps k g) (hi:∀cl C s H fp,PF (X.cmp N scope cl C s H fp) ifs tc) (he:∀cl C s H fp,PE (X.cmp N scope cl C s H fp) elt te)
  (hs:∀x,foldedSetIterable iter X.env x=pure x:=by intro _;rfl):PE X (.ListComp elt [⟨tg,iter,ifs,0⟩] scope pos) (tComp k fr wi g tc te):=by
 intro pins s σ H Q I h
 rw[eval_ListComp]
 obtain⟨cl,ecl,hcl,hcf⟩:=id_ (scope:=scope) (env:=X.env) fun y hy=>I.ok.has y (.inl (S.fre2 y hy))
 refine wpAny_comprehension_free (use:=none) rfl hs ecl S.kind S.loc (thn (hit pins s σ H _ I h) fun v s1 h1=>thn h1 fun itv s2 h2=>?_)
 obtain⟨it,fp,tn,J,H2,e,I2,T,st2,f2,W,⟨m0,w0⟩,turn⟩:=h2
 subst e
 refine fO_ S F hc hg hk hi he I2 T st2 f2 w0 (Fin:=fun ys H'=>∀D,H' D=none->Q (.ref D) (upd H' D (.lst ys))) turn hcl hcf (RR:=fun acc C=>compPost (model X.prog X.w) X.A X.xe none (EP X pins σ Q) acc C) ?_
 intro D C s' its n ys H' σ' hD hC hDC J' rv hz fin
 obtain⟨hn,I'⟩:=ib_ I2 f2 J' rv hz hD
 obtain⟨m,hm,_⟩:=J'.loc
 exact⟨m,hm,fun h' sb=>⟨.ref D,_,kY_ I2 hC hDC J' I' sb,rfl,fin D hn⟩⟩
theorem gx_{i:Nat}{y:Str}{py spos:Pos}(hN:X.N.Nodup)(hi':X.N[i]?=some y)(hx:Loc X.env.scope y)(S:CmpScope X N scope)(F:CmpFree X N scope k fr)(hc:X.calm=true)(hit:PI X tg iter wi)
  (hg:∀cl C s H fp,PG (X.cmp N scope cl C s H fp) tg g) (hk:GKeeps k g) (hi:∀cl C s H fp,PF (X.cmp N scope cl C s H fp) ifs tc) (he:∀cl C s H fp,PE (X.cmp N scope cl C s H fp) elt te)
  (hsw:swapsWith (.ListComp elt [⟨tg,iter,ifs,0⟩] scope pos) (some (.Name y py)) spos.line X.env=pure true)
  (hs:∀x,foldedSetIterable iter X.env x=pure x:=by intro _;rfl) (hf:X.fn y=true\/X.env.scope.names.lookup y=some .local:=by first | exact .inl rfl | exact .inr rfl | assumption) :
  PS X (.Assign [.Name y py] (.ListComp elt [⟨tg,iter,ifs,0⟩] scope pos) spos) (tAsg (tComp k fr wi g tc te) (gName i)):=by
 intro pins s σ H D0 I h
 obtain⟨cl,ecl,hcl,hcf⟩:=id_ (scope:=scope) (env:=X.env) fun y hy=>I.ok.has y (.inl (S.fre2 y hy))
 rw[exec_Assign_Name_used _ _ _ _ hsw]
 refine wpAny_bind (wpAny_standAt (wpAny_bind ?_))
 show wpAny _ X.A (do let _ <-comprehension (.ListComp elt [⟨tg,iter,ifs,0⟩] scope pos) scope X.env _ (newList []) false (eval iter X.env) (some (assign (.Name y py) X.env))) _ _ s
 refine wpAny_bind (wpAny_mono (wpAny_comprehension_free (use:=some (assign (.Name y py) X.env)) (Q:=fun _ s'=>SP X pins D0 .next s') rfl hs ecl S.kind S.loc
  (thn (hit pins s σ H _ I h) fun v s1 h1=>thn h1 fun itv s2 h2=>?_)) (fun _ s' hq=>wpAny_pure (wpAny_pure hq)) fun _ _ e=>e)
 obtain⟨it,fp,tn,J,H2,e,I2,T,st2,f2,W,⟨m0,w0⟩,turn⟩:=h2
 subst e
 refine fO_ S F hc hg hk hi he I2 T st2 f2 w0 (Fin:=fun ys H'=>∀D,H' D=none->D0.nx (σ.set i (some (.ref D))) (upd H' D (.lst ys))) turn hcl hcf
  (RR:=fun acc C=>compPost (model X.prog X.w) X.A X.xe (some (assign (.Name y py) X.env)) (fun _ s'=>SP X pins D0 .next s') acc C) ?_
 intro D C s' its n ys H' σ' hD hC hDC J' rv hz fin
 obtain⟨hn,I'⟩:=ib_ I2 f2 J' rv hz hD
 obtain⟨m,hm,_⟩:=J'.loc
 show wpAny _ _ (assign (.Name y py) X.env (.ref D)) _ _ s'
 refine wpAny_assign_Name (eW_ I' hN hi' hx (v:=.ref D) rfl (fun s9 I9 ⟨a,sba,ha⟩=>?_) hf)
 have hCa:C≠a:=by
  rcases ha with z | z
  ·rw[z];exact Nat.ne_of_gt (Nat.lt_of_lt_of_le I2.lt hC)
  ·obtain⟨v,q⟩:=I2.cell y a z
   exact fun z=>absurd (Nat.lt_of_lt_of_le q.lt (by rw[<-z];exact hC)) (Nat.lt_irrefl _)
 exact⟨m,hm.sameBut sba hCa,fun h' sb=>⟨_,_,kY_ I2 hC hDC J' I9 sb,fin D hn⟩⟩
end
def cmpOk(sc scope:Scope)(NX N:List Str)(k:Nat)(fr:List Nat):Bool :=
 scope.names.all (fun p=>p.2 != .cell)&&(scope.names.all (fun p=>p.2 != .local || scope.names.lookup p.1==some .local)&&(scope.names.all (fun p=>p.2 != .free || sc.names.lookup p.1==some .cell) &&
  (decide N.Nodup&&(N.length==k+fr.length&&(fr.zip (N.drop k)).all fun q=>NX[q.1]?==some q.2&&scope.names.lookup q.2==some .free))))
theorem cmpS{X:Cx}{sc scope:Scope}{NX N:List Str}{k:Nat}{fr:List Nat}(hX:X.env.scope=sc)(hk:scope.kind=.function)(h:cmpOk sc scope NX N k fr=true):CmpScope X N scope:=by
 unfold cmpOk at h
 simp only[Bool.and_eq_true,List.all_eq_true,decide_eq_true_eq] at h
 obtain⟨h1,h2,h3,h4,h5,h6⟩:=h
 have f2:∀y,(y,NameKind.free)∈scope.names->X.env.kindOf y=some .cell:=fun y hy=>by
  have:=h3 _ hy
  show X.env.scope.names.lookup y=some .cell
  rw[hX]
  simpa using this
 refine⟨hk,fun y hy=>by simpa using h1 y hy,fun y hy e=>?_,fun y e=>f2 y (PySem.mem_of_lookup e),f2,h4,fun y e=>PySem.mem_of_lookup e⟩
 have:=h2 y hy
 rw[e] at this
 simpa using this
theorem cmpF{X:Cx}{sc scope:Scope}{NX N:List Str}{k:Nat}{fr:List Nat}(hN:X.N=NX)(h:cmpOk sc scope NX N k fr=true):CmpFree X N scope k fr:=by
 unfold cmpOk at h
 simp only[Bool.and_eq_true,List.all_eq_true,decide_eq_true_eq] at h
 obtain⟨h1,h2,h3,h4,h5,h6⟩:=h
 refine⟨by simpa using h5,fun j i y e1 e2=>?_⟩
 have hm:(i,y)∈fr.zip (N.drop k):=by
  refine List.mem_of_getElem? (i:=j) ?_
  rw[List.getElem?_zip_eq_some]
  exact⟨e1,by rw[List.getElem?_drop];exact e2⟩
 have:=h6 _ hm
 rw[hN]
 simpa using this
section
variable{X:Cx}{elt iter:Expr}{ifs:List Expr}{scope:Scope}{pos px:Pos}{wi:TI}{tc:TT}{te:TE}{x:Str}
theorem nc_{sc scope:Scope}{NX N:List Str}{k:Nat}{fr:List Nat}(h:cmpOk sc scope NX N k fr=true):N.Nodup:=by
 unfold cmpOk at h
 simp only[Bool.and_eq_true,decide_eq_true_eq] at h
 exact h.2.2.2.1
theorem aZ_(sc:Scope)(NX:List Str)(fs:List Str)(fr:List Nat)(hc:X.calm=true)(hit:PI X (.Name x px) iter wi)(hi:∀cl C s H fp,PF (X.cmp (x::fs) scope cl C s H fp) ifs tc)(he:∀cl C s H fp,PE (X.cmp (x::fs) scope cl C s H fp) elt te)
  (ok:cmpOk sc scope NX (x::fs) 1 fr=true) (hX:X.env.scope=sc:=by rfl) (hN:X.N=NX:=by rfl) (hk:scope.kind=.function:=by rfl) (hx:scope.names.lookup x=some .local:=by rfl)
  (hs:∀x,foldedSetIterable iter X.env x=pure x:=by intro _;rfl):PE X (.ListComp elt [⟨.Name x px,iter,ifs,0⟩] scope pos) (tComp 1 fr wi (gName 0) tc te) :=
 gz_ (cmpS hX hk ok) (cmpF hN ok) hc hit (fun cl C s H fp=>j_ (i:=0) (nc_ ok) rfl (Or.inl (lookup_relabel_local hx)) (.inr (lookup_relabel_local hx))) (kA_ (by decide)) hi he hs
theorem ej_(sc:Scope)(NX:List Str)(fs:List Str)(fr:List Nat){i:Nat}{y:Str}{py spos:Pos}(hNd:X.N.Nodup)(hi':X.N[i]?=some y)(hy:Loc X.env.scope y)(hc:X.calm=true)(hit:PI X (.Name x px) iter wi)
  (hi:∀cl C s H fp,PF (X.cmp (x::fs) scope cl C s H fp) ifs tc) (he:∀cl C s H fp,PE (X.cmp (x::fs) scope cl C s H fp) elt te)
  (ok:cmpOk sc scope NX (x::fs) 1 fr=true) (hsw:swapsWith (.ListComp elt [⟨.Name x px,iter,ifs,0⟩] scope pos) (some (.Name y py)) spos.line X.env=pure true)
  (hX:X.env.scope=sc:=by rfl) (hN:X.N=NX:=by rfl) (hk:scope.kind=.function:=by rfl) (hx:scope.names.lookup x=some .local:=by rfl)
  (hs:∀x,foldedSetIterable iter X.env x=pure x:=by intro _;rfl) (hf:X.fn y=true\/X.env.scope.names.lookup y=some .local:=by first | exact .inl rfl | exact .inr rfl | assumption) :
  PS X (.Assign [.Name y py] (.ListComp elt [⟨.Name x px,iter,ifs,0⟩] scope pos) spos) (tAsg (tComp 1 fr wi (gName 0) tc te) (gName i)) :=
 gx_ hNd hi' hy (cmpS hX hk ok) (cmpF hN ok) hc hit (fun cl C s H fp=>j_ (i:=0) (nc_ ok) rfl (Or.inl (lookup_relabel_local hx)) (.inr (lookup_relabel_local hx))) (kA_ (by decide)) hi he hsw hs hf
end
theorem aT_{lo:Int}{n:Nat}{G:V->Hp->(List V->Hp->Prop)->List V->Prop}{Fin:List V->Hp->Prop}{H:Hp}(Pv:Nat->List V->Hp->Prop)(h0:Pv 0 [] H)
  (hs:∀i ys H,i<n->Pv i ys H->ys.length<sizeLine/\G (.int (lo+i)) H (Pv (i+1)) ys) (hd:∀ys H,Pv n ys H->Fin ys H) :
  ∃W:Nat->Nat->List V->Hp->Prop,(∃m,W 0 m [] H)/\∀i m ys H,W i m ys H->
   ((Itr lo n).stop i H/\Fin ys H)\/((Itr lo n).go i H/\ys.length<sizeLine/\∃Nx:List V->Hp->Prop,(∀ys' H',Nx ys' H'->∃m',m'<m/\W (i+1) m' ys' H')/\∀x H',(Itr lo n).yld i H x H'->G x H' Nx ys):=by
 refine⟨fun i m ys H=>m=n-i/\i<=n/\Pv i ys H,⟨n,by simp,Nat.zero_le _,h0⟩,?_⟩
 rintro i m ys H ⟨rfl,hi,p⟩
 by_cases hlt:i<n
 ·obtain⟨a1,a2⟩:=hs i ys H hlt p
  refine .inr ⟨hlt,a1,Pv (i+1),fun ys' H' p'=>⟨n-(i+1),by lia,rfl,hlt,p'⟩,fun x H' y=>?_⟩
  obtain⟨e,y⟩:=y
  subst e y
  exact a2
 ·have e:i=n:=by lia
  subst e
  exact .inl ⟨Nat.le_refl _,hd ys H p⟩
theorem aj_{K:PySem.W.Frag}{a:Addr}{xs:List V}{G:V->Hp->(List V->Hp->Prop)->List V->Prop}{Fin:List V->Hp->Prop}{H:Hp}(Pv:Nat->List V->Hp->Prop)(h0:Pv 0 [] H)(hl:∀i ys H,i<=xs.length->Pv i ys H->SqL K H a xs)
  (hs:∀i x ys H,xs[i]?=some x->Pv i ys H->ys.length<sizeLine/\G x H (Pv (i+1)) ys) (hd:∀ys H,Pv xs.length ys H->Fin ys H) :
  ∃W:Nat->Nat->List V->Hp->Prop,(∃m,W 0 m [] H)/\∀i m ys H,W i m ys H->
   ((Itl K a).stop i H/\Fin ys H)\/((Itl K a).go i H/\ys.length<sizeLine/\∃Nx:List V->Hp->Prop,(∀ys' H',Nx ys' H'->∃m',m'<m/\W (i+1) m' ys' H')/\∀x H',(Itl K a).yld i H x H'->G x H' Nx ys):=by
 refine⟨fun i m ys H=>m=xs.length-i/\i<=xs.length/\Pv i ys H,⟨xs.length,by simp,Nat.zero_le _,h0⟩,?_⟩
 rintro i m ys H ⟨rfl,hi,p⟩
 have q:=hl i ys H hi p
 by_cases hlt:i<xs.length
 ·obtain⟨a1,a2⟩:=hs i xs[i] ys H (by simp[hlt]) p
  refine .inr ⟨⟨xs,xs[i],q,by simp[hlt]⟩,a1,Pv (i+1),fun ys' H' p'=>⟨xs.length-(i+1),by lia,rfl,hlt,p'⟩,fun x H' y=>?_⟩
  obtain⟨e,y⟩:=y
  subst e
  have hx:=y xs q
  rw[show xs[i]?=some xs[i] by simp[hlt]] at hx
  cases hx
  exact a2
 ·have e:i=xs.length:=by lia
  subst e
  exact .inl ⟨⟨xs,q,Nat.le_refl _⟩,hd ys H p⟩
section
variable{X:Cx}
theorem aG_:CallR X (.builtin "isinstance") (fun xs H Q=>∃x t c b,xs=[x,.ty c]/\TyOf X.K H x t/\PySem.W.kitOne X.K t (.type c)=some b/\Q (.bl b) H):=by
 intro pins s σ H xs us Q I r h
 obtain⟨x,t,c,b,rfl,ty,e,q⟩:=h
 obtain⟨u,v,rfl,rx,ry⟩:=vals2 r
 cases ry
 exact ku_ I rx ty e fun tk=>⟨.bl b,H,I.tok tk,rfl,q⟩
theorem seen{pins:List (Addr×Obj)}{σ:St}{H:Hp}{s:Shared}{l:Addr}{h':Heap}{tk:Nat}(I:Inv X pins σ H s)(hk:∀b o,b∉[s.heap.objs.size]->(s.heap.push {cls:=.type "list_iterator",data:=.fields #[.ref l,.int 0 0]}).get? b=some o->h'.get? b=some o) :
  Inv X pins σ H {s with heap:=h',toks:=tk}:=I.kept (old_kept hk)
theorem lh_{bs:List Bool}:((List.range bs.length).all fun i=>(bs[i]?).getD true)=bs.all id:=by
 induction bs with
 | nil=>rfl
 | cons b r ih =>
  rw[List.length_cons,List.range_succ_eq_map,List.all_cons,List.all_map,List.all_cons]
  congr 1
theorem mm_(hc:X.calm=true):CallR X (.builtin "all") (fun xs H Q=>∃(p:Addr) (bs:List Bool),xs=[.ref p]/\SqL X.K H p (bs.map V.bl)/\Q (.bl (bs.all id)) H):=by
 intro pins s σ H xs us Q I r h
 obtain⟨p,bs,rfl,hq,q⟩:=h
 obtain⟨u,rfl,rx⟩:=vals1 r
 cases rx
 obtain⟨its,rv,pl,hz⟩:=I.list hq
 have hl:=pl.isList
 have hlt:p<s.heap.objs.size:=by obtain⟨_,e,_⟩:=hl;exact Heap.lt_size e
 have hn:its.toArray.size=bs.length:=by rw[List.size_toArray,<-rv.length,List.length_map]
 refine call_all_walk (wpAny_pyIter_list hl ?_)
 refine⟨_,_,_,_,_,_,fun i=>(bs[i]?).getD true,rfl,Walks.list (A:=X.A.in1) (I.ok.hd hc) s.heap.objs.size p (Nat.ne_of_lt hlt) its.toArray,⟨⟨_,Heap.get?_push_size _ rfl,rfl,rfl⟩,hl.push _⟩,?_,fun h' tk hk=>?_⟩
 ·intro i v s' Q' E' hP hQ
  have hv:its[i]?=some v:=by simpa using hP
  cases eb:bs[i]? with
  | none =>
   have:=rv.none_of (i:=i) (by rw[List.getElem?_map,eb];rfl)
   rw[this] at hv;cases hv
  | some b =>
   obtain⟨u,hu,ru⟩:=rv.get (i:=i) (x:=.bl b) (by rw[List.getElem?_map,eb];rfl)
   rw[hu] at hv;cases hv
   cases ru
   refine wpAny_truthy_bool ?_
   have e:(bs[i]?).getD true=b:=by rw[eb];rfl
   rw[<-e];exact hQ
 ·rw[hn,lh_]
  exact⟨.bl _,H,(show Inv X pins σ H {s with heap:=h',toks:=tk} from seen I hk),rfl,q⟩
theorem cC_(ns:List Int):∀k,k<=ns.length->preSum (fun i=>(ns[i]?).getD 0) k=(ns.take k).sum
 | 0,_=>by simp[preSum]
 | k+1,h=>by
  have e:ns[k]?=some (ns[k]'(by lia)):=by simp
  rw[preSum,cC_ ns k (by lia),List.take_add_one,e,List.sum_append]
  simp
theorem eU_{B:Int}:∀(ns:List Int),(∀n∈ns,-B<=n/\n<=B)->-(ns.length*B)<=ns.sum/\ns.sum<=ns.length*B
 | [],_=>by simp
 | n::r,h=>by
  have h1:=h n (by simp)
  have h2:=eU_ r fun m hm=>h m (List.mem_cons_of_mem _ hm)
  rw[List.sum_cons,List.length_cons]
  have e:((r.length+1:Nat):Int)*B=r.length*B+B:=by rw[Int.natCast_add,Int.add_mul];simp
  lia
theorem fP_(hc:X.calm=true):CallR X (.builtin "sum") (fun xs H Q=>∃(p:Addr) (ns:List Int),xs=[.ref p]/\SqL X.K H p (ns.map V.int)/\(ns.length<=1000/\∀n∈ns,-1000000000<=n/\n<=1000000000)/\Q (.int ns.sum) H):=by
 intro pins s σ H xs us Q I r h
 obtain⟨p,ns,rfl,hq,⟨hb0,hb⟩,q⟩:=h
 obtain⟨u,rfl,rx⟩:=vals1 r
 cases rx
 obtain⟨its,rv,pl,hz⟩:=I.list hq
 have hl:=pl.isList
 have hlt:p<s.heap.objs.size:=by obtain⟨_,e,_⟩:=hl;exact Heap.lt_size e
 have hn:its.toArray.size=ns.length:=by rw[List.size_toArray,<-rv.length,List.length_map]
 refine call_sum_walk (wpAny_pyIter_list hl ?_)
 refine⟨_,_,_,_,_,_,fun i=>(ns[i]?).getD 0,rfl,Walks.list (A:=X.A.in1) (I.ok.hd hc) s.heap.objs.size p (Nat.ne_of_lt hlt) its.toArray,⟨⟨_,Heap.get?_push_size _ rfl,rfl,rfl⟩,hl.push _⟩,fun b hb'=>?_,fun i v hP=>?_,fun j hj=>?_,fun h' tk t' hk=>?_⟩
 ·show b<(s.heap.push _).objs.size
  rw[Heap.size_push]
  rcases List.mem_cons.mp hb' with rfl | hb'
  ·exact Nat.lt_succ_self _
  ·have e:b=p:=by simpa using hb'
   rw[e];exact Nat.lt_succ_of_lt hlt
 ·have hv:its[i]?=some v:=by simpa using hP
  cases eb:ns[i]? with
  | none =>
   have:=rv.none_of (i:=i) (by rw[List.getElem?_map,eb];rfl)
   rw[this] at hv;cases hv
  | some b =>
   obtain⟨u,hu,ru⟩:=rv.get (i:=i) (x:=.int b) (by rw[List.getElem?_map,eb];rfl)
   rw[hu] at hv;cases hv
   obtain⟨t,rfl⟩:=ru
   exact⟨t,by simp[eb]⟩
 ·rw[hn] at hj
  have e:ns[j]?=some ns[j]:=by simp[hj]
  have b1:=hb ns[j] (List.getElem_mem hj)
  have b2:=eU_ (B:=1000000000) (ns.take (j+1)) fun m hm=>hb m (List.mem_of_mem_take hm)
  rw[cC_ ns (j+1) (by lia)]
  have e3:(ns.take (j+1)).length=j+1:=by rw[List.length_take];lia
  rw[e3] at b2
  refine⟨⟨?_,?_⟩,?_,?_⟩
  ·show _<=(ns[j]?).getD 0
   rw[e];show _<=ns[j];lia
  ·show(ns[j]?).getD 0<_
   rw[e];show ns[j]<_;lia
  ·lia
  ·lia
 ·rw[hn,cC_ ns ns.length (Nat.le_refl _),List.take_length]
  exact⟨.int _,H,(show Inv X pins σ H {s with heap:=h',toks:=tk} from seen I hk),⟨_,rfl⟩,q⟩
def DatV(P:Program)(w:World)(H:Hp)(x:V)(d:PyData):Prop:=∀(h:Heap) (v:Value),HOk P w H h->RelV x v->∃as,Reads h v d as
section
variable{P:Program}{w:World}{H:Hp}
theorem datI(i:Int):DatV P w H (.int i) (.int i):=fun h v _ r=>by obtain⟨t,rfl⟩:=r;exact⟨_,.int i t⟩
theorem datS(x:Str):DatV P w H (.str x) (.str x):=fun h v _ r=>by obtain⟨t,rfl⟩:=r;exact⟨_,.str x t⟩
theorem dats{h:Heap}(ok:HOk P w H h){xs:List V}{its:List Value}{ds:List PyData}(a:Vals xs its)(b:Paired (DatV P w H) xs ds):∃as,ReadsAll h its ds as:=by
 induction a generalizing ds with
 | nil=>cases b;exact⟨_,.nil⟩
 | cons r t ih =>
  cases b with
  | cons q u =>
   obtain⟨as,h1⟩:=q _ _ ok r
   obtain⟨bs,h2⟩:=ih u
   exact⟨_,.cons h1 h2⟩
theorem datL{a:Addr}{xs:List V}{ds:List PyData}(e:H a=some (.lst xs))(r:Paired (DatV P w H) xs ds):DatV P w H (.ref a) (.list ds):=fun h v ok rv=>by
 cases rv
 obtain⟨_,its,n,rs,e1⟩:=ok a _ e
 obtain⟨as,h1⟩:=dats ok rs r
 exact⟨_,.list e1 rfl rfl (by simpa using h1)⟩
theorem datT{a:Addr}{xs:List V}{ds:List PyData}(e:H a=some (.tup xs))(r:Paired (DatV P w H) xs ds):DatV P w H (.ref a) (.tuple ds):=fun h v ok rv=>by
 cases rv
 obtain⟨_,its,rs,o,e1,c,n,d⟩:=ok a _ e
 obtain⟨as,h1⟩:=dats ok rs r
 exact⟨_,.tuple e1 c d (by simpa using h1)⟩
theorem datIs:∀ns:List Int,Paired (DatV P w H) (ns.map V.int) (ns.map PyData.int)
 | []=>.nil
 | n::r=>.cons (datI n) (datIs r)
end
theorem lays:∀ns:List Int,PyData.canLayAll0 (ns.map PyData.int)=true
 | []=>rfl
 | n::r=>by
  rw[List.map_cons,PyData.canLayAll0,lays r]
  rfl
theorem depths:∀ns:List Int,PyData.depthAll (ns.map PyData.int)=0
 | []=>rfl
 | n::r=>by
  rw[List.map_cons,PyData.depthAll,depths r]
  rfl
def rEqD(P:Program)(w:World)(neg:Bool):R2:=fun x y H Q=>∃dx dy,DatV P w H x dx/\DatV P w H y dy/\(dx.canLay0=true/\dy.canLay0=true/\dx.depth<=60)/\Q (.bl (if neg=true then !PyData.eqv dx dy else PyData.eqv dx dy)) H
theorem mL_(hu:X.A.units+64<cLine):OpR X (compareOp .Eq) (rEqD X.prog X.w false):=by
 intro pins s σ H x y v u Q I rx ry h
 obtain⟨dx,dy,h1,h2,⟨c1,c2,c3⟩,q⟩:=h
 obtain⟨as,r1⟩:=h1 _ _ I.hok rx
 obtain⟨bs,r2⟩:=h2 _ _ I.hok ry
 refine SeqAt.compareEq_reads r1 r2 c1 c2 ?_ ⟨.bl _,H,I,rfl,q⟩
 have:min dx.depth dy.depth<=dx.depth:=Nat.min_le_left _ _
 lia
theorem oS_(hu:X.A.units+64<cLine):OpR X (compareOp .NotEq) (rEqD X.prog X.w true):=by
 intro pins s σ H x y v u Q I rx ry h
 obtain⟨dx,dy,h1,h2,⟨c1,c2,c3⟩,q⟩:=h
 obtain⟨as,r1⟩:=h1 _ _ I.hok rx
 obtain⟨bs,r2⟩:=h2 _ _ I.hok ry
 refine SeqAt.compareNe_reads r1 r2 c1 c2 ?_ ⟨.bl _,H,I,rfl,q⟩
 have:min dx.depth dy.depth<=dx.depth:=Nat.min_le_left _ _
 lia
theorem gS_{P:Program}{w:World}{neg:Bool}{x y:V}{H:Hp}{Q:VK}{d:PyData}(h1:DatV P w H x d)(h2:DatV P w H y d)(c1:d.canLay0=true)(c2:d.depth<=60)(q:Q (.bl (!neg)) H):rEqD P w neg x y H Q:=by
 refine⟨d,d,h1,h2,⟨c1,c1,c2⟩,?_⟩
 rw[SeqAt.eqv_refl d c1]
 cases neg <;> exact q
end
theorem iz_:typeLookup (.type "list_reverseiterator") "__len__"=pure none:=by rw[typeLookup_type,builtinLookup_eq_fast];kernel_rfl
theorem lY_:typeLookup (.type "list_reverseiterator") "__length_hint__"=pure (some (.builtin "list_reverseiterator.__length_hint__")):=by rw[typeLookup_type,builtinLookup_eq_fast];kernel_rfl
theorem eV_:isSubtype (.type "list_reverseiterator") (.type "list_reverseiterator")=pure true:=by rw[isSubtype_type];kernel_rfl
section
variable{prog:Program}{w:World}{A:Around}{s:Shared}
theorem gI_{E:Value->Shared->Prop}{J l:Addr}{i:Int}{Q:Bool->Shared->Prop}(hit:s.heap.IsRevIter J l i)(h:Q false s):wpAny (model prog w) A (Builtin.List.listLengthHint (.ref J)) Q E s:=by
 unfold Builtin.List.listLengthHint
 refine wpAny_bind (wpAny_specialOf hit.typeIs iz_ ?_)
 show wpAny _ A (specialOf (Value.ref J) (Str.ofString "__length_hint__")>>=_) _ _ _
 refine wpAny_bind (wpAny_specialOf hit.typeIs lY_ ?_)
 generalize hid:("list_reverseiterator.__length_hint__":String)=id0
 wp_delta
 rw[show splitId id0=some ("list_reverseiterator","__length_hint__") from by subst hid;decide +kernel]
 subst hid
 refine wpAny_bind (wpAny_isInstance (T:="list_reverseiterator") (b:=true) hit.typeIs eV_ ?_)
 refine wpAny_ite_split (fun hab=>absurd hab (by decide)) (fun _=>?_)
 refine wpAny_ite_split (fun _=>?_) (fun hab=>absurd (by decide +kernel) hab)
 refine wpAny_ite_split (fun hab=>absurd hab (by decide +kernel)) (fun _=>?_)
 exact wpAny_pure h
theorem iJ_{R:Result->Shared->Prop}{J l:Addr}{items:Array Value}(hh:A.handled=none)(hne:l≠J)(hit:s.heap.IsRevIter J l ((items.size:Int)-1))(hl:s.heap.IsList l items)(hz:items.size<=sizeLine)(S:Addr)(res:Value)(c0:Nat)
  (hS:s.heap.get? S=some {cls:=.type "list",data:=.seq #[] c0}) (hSJ:S≠J) (hSl:S≠l)
  (hR:∀h' tk acc c',(∀b o,b≠S->b≠J->s.heap.get? b=some o->h'.get? b=some o)->h'.get? S=some {cls:=.type "list",dict:=none,data:=.seq acc c',slots:=#[]}->
   ItemsOf (fun i v=>items[items.size-1-i]?=some v) acc items.size->R (.ok (.ret res)) {s with heap:=h',toks:=tk}) :
  wpAny (model prog w) A.in1 (Builtin.List.listExtendWith (.ref S) (.ref J) res)
   (fun fin s'=>match fin with | .done f=>R (.ok f) s' | .again c'=>c'.quiet=true/\codeAny (model prog w) A c' R s') (fun e s'=>R (.error e) s') s:=by
 have W:=(Walks.listRev (prog:=prog) (w:=w) (A:=A.in1) hh J l hne items).toS
 have hSf:S∉[J,l]:=fun hm=>by
  rcases List.mem_cons.mp hm with e | hm
  ·exact hSJ e
  ·exact hSl (by simpa using hm)
 unfold Builtin.List.listExtendWith
 refine wpAny_bind (wpAny_typeOf hit.typeIs ?_)
 have h1:Builtin.List.listSameRef (.ref S) (.ref J)=false:=by simp[Builtin.List.listSameRef,hSJ]
 have h2:(Value.type "list_reverseiterator"==Value.type "list")=false:=by decide
 have h3:(Value.type "list_reverseiterator"==Value.type "tuple")=false:=by decide
 simp only[h1,h2,h3,Bool.or_false,Bool.false_eq_true,if_false]
 refine wpAny_bind (wpAny_pyIter_revIter hit ?_)
 refine wpAny_bind (wpAny_holding (gI_ hit ?_))
 refine wpAny_ite_split (fun hab=>absurd hab (by decide)) (fun _=>?_)
 refine wpAny_pure ⟨plainId_quiet F.plain_extend_loop _,?_⟩
 refine codeAny_extend_loopS W hz S hSf res items.size 0 s #[] c0 rfl (Nat.zero_le _) ⟨Nat.zero_le _,by simpa using hit,hl⟩ hS (ItemsOf.nil _) fun s' acc' c' hm hS' hacc=>?_
 rw[Moved.eq_with hm]
 refine hR s'.heap s'.toks acc' c' (fun b o hb hb2 e=>hm.heap b o (fun z=>?_) e) hS' hacc
 rcases List.mem_cons.mp z with z | z
 ·exact hb z
 ·exact hb2 (by simpa using z)
theorem lW_{R:Result->Shared->Prop}{J l:Addr}{items:Array Value}(hh:A.handled=none)(hne:l≠J)(hit:s.heap.IsRevIter J l ((items.size:Int)-1))(hl:s.heap.IsList l items)(hz:items.size<=sizeLine)(S:Addr)
  (hS:s.heap.get? S=some {cls:=.type "list",data:=.seq #[]}) (hSJ:S≠J) (hSl:S≠l)
  (hR:∀h' tk acc c',(∀b o,b≠S->b≠J->s.heap.get? b=some o->h'.get? b=some o)->h'.get? S=some {cls:=.type "list",dict:=none,data:=.seq acc c',slots:=#[]}->
   ItemsOf (fun i v=>items[items.size-1-i]?=some v) acc items.size->R (.ok (.ret .none)) {s with heap:=h',toks:=tk}) :
  wpAny (model prog w) A.in1 (Builtin.«list.__init__» ⟨[.ref S,.ref J],[]⟩)
   (fun fin s'=>match fin with | .done f=>R (.ok f) s' | .again c'=>c'.quiet=true/\codeAny (model prog w) A c' R s') (fun e s'=>R (.error e) s') s:=by
 show wpAny _ _ (do let old <-Builtin.List.listItems (.ref S);Builtin.List.listUpdate (.ref S) (fun _=>#[]);letGo old.toList.reverse;Builtin.List.listExtendWith (.ref S) (.ref J) .none) _ _ s
 refine wpAny_bind ?_
 unfold Builtin.List.listItems
 refine wpAny_bind (wpAny_seqItems hS rfl (wpAny_pure ?_))
 show wpAny _ _ (updateSeq S (fun _=>#[])>>=fun _=>letGo (#[]:Array Value).toList.reverse>>=fun _=>Builtin.List.listExtendWith (.ref S) (.ref J) .none) _ _ s
 refine wpAny_bind (wpAny_updateSeq hS rfl ?_)
 have g2:=Heap.get?_update_self (Obj.mapSeq (fun _=>(#[]:Array Value))) hS rfl
 have oth:∀b o,b≠S->s.heap.get? b=some o->(s.heap.update S (Obj.mapSeq (fun _=>(#[]:Array Value)))).get? b=some o :=
  fun b o hb e=>(Heap.get?_update_other _ _ (Ne.symm hb)).trans e
 refine wpAny_bind (wpAny_letGo ?_)
 refine iJ_ hh hne (hit.at fun o e=>oth J o (Ne.symm hSJ) e) (hl.at fun o e=>oth l o (Ne.symm hSl) e) hz S .none _ g2 hSJ hSl fun h' tk acc' c' hk hS' hacc=>?_
 exact hR h' tk acc' c' (fun b o hb hb2 e=>hk b o hb hb2 (oth b o hb e)) hS' hacc
theorem lS_{E:Value->Shared->Prop}{Q:Value->Shared->Prop}{J l:Addr}{items:Array Value}(hh:A.handled=none)(hne:l≠J)(hit:s.heap.IsRevIter J l ((items.size:Int)-1))(hl:s.heap.IsList l items)(hz:items.size<=sizeLine)
  (hQ:∀h' tk acc c',(∀b o,b≠J->s.heap.get? b=some o->h'.get? b=some o)->h'.get? s.heap.objs.size=some {cls:=.type "list",dict:=none,data:=.seq acc c',slots:=#[]}->
   ItemsOf (fun i v=>items[items.size-1-i]?=some v) acc items.size->Q (.ref s.heap.objs.size) {s with heap:=h',toks:=tk}) :
  wpAny (model prog w) A (call (.type "list") [.ref J]) Q E s:=by
 have ltJ:J<s.heap.objs.size:=by obtain⟨o,e,_⟩:=hit;exact Heap.lt_size e
 have ltl:l<s.heap.objs.size:=by obtain⟨o,e,_⟩:=hl;exact Heap.lt_size e
 refine callType_codes (Q₁:=fun obj s1=>obj=.ref s.heap.objs.size/\s1={s with heap:=s.heap.push {cls:=.type "list",data:=.seq #[]}}) F.called_list (F.typeCall_list_1 _) F.entry_list_init
  (code_list_new _ ⟨rfl,rfl⟩) fun obj s1 h1=>?_
 obtain⟨rfl,rfl⟩:=h1
 have hS:(s.heap.push {cls:=.type "list",data:=.seq #[]}).get? s.heap.objs.size=some {cls:=.type "list",data:=.seq #[]}:=Heap.get?_push_size _ rfl
 refine⟨⟨_,hS,rfl⟩,F.args_list_init_2 _ _,lW_ (A:=A.in1) hh hne (hit.at fun o e=>Heap.get?_push_of_some _ e) (hl.at fun o e=>Heap.get?_push_of_some _ e) hz _ hS (Nat.ne_of_gt ltJ) (Nat.ne_of_gt ltl) fun h' tk acc' c' hk hS' hacc=>?_⟩
 exact⟨rfl,hQ h' tk acc' c' (fun b o hb e=>hk b o (Nat.ne_of_lt (Heap.lt_size e)) hb (Heap.get?_push_of_some _ e)) hS' hacc⟩
end
section
variable{X:Cx}{e:Expr}{te:TE}
def tLRev(K:PySem.W.Frag)(te:TE):TE:=fun σ H Q=>te σ H fun x H1=>∃a xs,x=.ref a/\SqL K H1 a xs/\∀p,H1 p=none->Q (.ref p) (upd H1 p (.lst xs.reverse))
theorem kt_{its:List Value}{acc:Array Value}(h:ItemsOf (fun i v=>its.toArray[its.toArray.size-1-i]?=some v) acc its.toArray.size):acc.toList=its.reverse:=by
 obtain⟨h0,h2⟩:=h
 have h1:acc.size=its.length:=by rw[h0];simp
 apply List.ext_getElem?
 intro i
 by_cases hi:i<acc.size
 ·have e:=h2 i acc[i] (by simp[hi])
  have e':its[its.length-1-i]?=some acc[i]:=by simpa using e
  rw[List.getElem?_reverse (by lia),e']
  simp[hi]
 ·rw[List.getElem?_eq_none (by simpa using hi),List.getElem?_eq_none (by rw[List.length_reverse];lia)]
theorem nG_{p1 p2 q1 q2:Pos}(hc:X.calm=true)(hm1:X.mg "list"=none)(hm2:X.mg "reversed"=none)(hg1:Gl X "list")(hg2:Gl X "reversed")(he:PE X e te)(h1:starEach [e] X.env=[(false,eval e X.env)]:=by rfl) :
  PE X (.Call (.Name "list" p1) [.Call (.Name "reversed" p2) [e] [] q2] [] q1) (tLRev X.K te):=by
 intro pins s σ H Q I h
 refine wpAny_Call_Name_kw (aP_ I hg1 hm1 boot_list ?_)
 refine PyProof.Rows.callWith_type1 ?_ rfl rfl
 show wpAny _ _ (spliced ((false,eval (.Call (.Name "reversed" p2) [e] [] q2) X.env)::backTo q1 (starEach [] X.env))) _ _ s
 refine Calls.spliced_cons ?_
 refine wpAny_Call_Name_kw (aP_ I hg2 hm2 boot_reversed ?_)
 refine PyProof.Rows.callWith_type1 ?_ h1 rfl
 rw[h1]
 show wpAny _ _ (spliced ((false,eval e X.env)::backTo q2 (starEach [] X.env))) _ _ s
 refine Calls.spliced_cons (thn (he pins s σ H _ I h) fun u s1 ⟨x,H1,I1,r1,q1⟩=>?_)
 obtain⟨a,xs,rfl,hq,q⟩:=q1
 cases r1
 obtain⟨its,rv,pl,hz⟩:=I1.list hq
 have hl:=pl.isList
 have hlen:=rv.length
 have ltl:a<s1.heap.objs.size:=by obtain⟨o,e,_⟩:=hl;exact Heap.lt_size e
 refine Calls.spliced_nil ?_
 refine call_reversed_list hl ?_
 refine Calls.spliced_nil ?_
 refine lS_ (items:=its.toArray) (I1.ok.hd hc) (Nat.ne_of_lt ltl) ⟨_,Heap.get?_push_size _ rfl,rfl,rfl⟩ (hl.at fun o e=>Heap.get?_push_of_some _ e) (by rw[List.size_toArray];lia) fun h' tk acc c' hk hS hacc=>?_
 have eS:(s1.heap.push (revObj a ((its.toArray.size:Int)-1))).objs.size=s1.heap.objs.size+1:=Heap.size_push ..
 have hnew:s1.heap.objs.size<=(s1.heap.push (revObj a ((its.toArray.size:Int)-1))).objs.size:=by rw[eS];exact Nat.le_succ _
 have ea:=kt_ hacc
 refine⟨.ref _,_,I1.laid (t':=tk) (o:=.lst xs.reverse) (fun b o e=>hk b o (Nat.ne_of_lt (Heap.lt_size e)) (Heap.get?_push_of_some _ e)) hnew ⟨by rw[List.length_reverse];exact hz,its.reverse,c',rv.reverse,?_⟩,rfl,q _ (I1.hok.fresh hnew)⟩
 rw[hS,<-ea]
end
section
variable{X:Cx}{pins:List (Addr×Obj)}{σ:St}{H:Hp}{s:Shared}{h':Heap}
theorem Inv.turnedNew{ch:List Addr}{T:Addr}{o:HO}{t':Nat}(I:Inv X pins σ H s)(k:∀b u,b∉ch->s.heap.get? b=some u->h'.get? b=some u)(hf:∀b∈ch,FpOk X pins H b)(hT:s.heap.objs.size<=T)
  (new:ObjOk X.prog X.w (upd H T o) h' T o):Inv X pins σ (upd H T o) {s with heap:=h',toks:=t'}:=by
 have hn:=I.hok.fresh hT
 have lt:∀b u,s.heap.get? b=some u->b≠T:=fun b u e=>Nat.ne_of_lt (Nat.lt_of_lt_of_le (Heap.lt_size e) hT)
 have tr:∀b u,H b=some u->b∉ch:=fun b u e hb=>by
  obtain⟨f0,_⟩:=hf b hb
  rw[e] at f0;cases f0
 refine I.step (g':=s.gens) (d':=s.drawn) (ch:=ch) (fun b hb=>?_) (fun b u _ _ hc e _=>k b u hc e) (fun b u _ _ hc e _=>⟨u.slots,k b u hc e⟩) (fun b u _ e n=>by rw[l_ (lt b u e)];exact n)
  (fun b u hc e=>⟨u,k b u hc e⟩) (fun b xs e=>by rw[l_ (k_ e hn)];exact e) (fun b u x e=>by rw[l_ (k_ e hn)];exact e) (fun b ps e=>⟨#[],by rw[l_ (k_ e hn),e];simp⟩) (fun m hm=>?_) (fun b u e=>?_) I.bare
 ·obtain⟨_,f1,_,f3,f4,f5⟩:=hf b hb
  exact⟨f3,f1,f4,f5⟩
 ·obtain⟨u,es,ep,hu,r⟩:=hm
  exact⟨u,es,ep,k _ u (fun z=>(hf _ z).2.1 rfl) hu,r⟩
 ·by_cases hb:b=T
  ·subst hb
   rw[c_] at e;cases e
   exact new
  ·rw[l_ hb] at e
   refine(I.hok b u e).stay (fun c v hc q=>k c v ?_ q) (fun c q=>by rw[l_ (k_ q hn)];exact q) fun c xs q=>by rw[l_ (k_ q hn)];exact q
   rcases hc with rfl | hc
   ·exact tr _ _ e
   ·exact tr _ _ hc
theorem Inv.turnedL{ch:List Addr}{t':Nat}(I:Inv X pins σ H s)(k:∀b u,b∉ch->s.heap.get? b=some u->h'.get? b=some u)(hf:∀b∈ch,FpOk X pins H b):Inv X pins σ H {s with heap:=h',toks:=t'}:=by
 have tr:∀b u,H b=some u->b∉ch:=fun b u e hb=>by
  obtain⟨f0,_⟩:=hf b hb
  rw[e] at f0;cases f0
 refine I.step (g':=s.gens) (d':=s.drawn) (ch:=ch) (fun b hb=>?_) (fun b u _ _ hc e _=>k b u hc e) (fun b u _ _ hc e _=>⟨u.slots,k b u hc e⟩) (fun _ _ _ _ n=>n)
  (fun b u hc e=>⟨u,k b u hc e⟩) (fun _ _ e=>e) (fun _ _ _ e=>e) (fun b ps e=>⟨#[],by rw[e];simp⟩) (fun m hm=>?_) (fun b u e=>?_) I.bare
 ·obtain⟨_,f1,_,f3,f4,f5⟩:=hf b hb
  exact⟨f3,f1,f4,f5⟩
 ·obtain⟨u,es,ep,hu,r⟩:=hm
  exact⟨u,es,ep,k _ u (fun z=>(hf _ z).2.1 rfl) hu,r⟩
 ·refine(I.hok b u e).stay (fun c v hc q=>k c v ?_ q) (fun _ q=>q) fun _ _ q=>q
  rcases hc with rfl | hc
  ·exact tr _ _ e
  ·exact tr _ _ hc
end
def Ite(K:PySem.W.Frag)(a:Addr):It :=
 ⟨fun i H=>∃xs x,SqL K H a xs/\xs[i]?=some x,fun i H v H'=>∃t x,v=.ref t/\H t=none/\(∀xs,SqL K H a xs->xs[i]?=some x)/\H'=upd H t (.tup [.int i,x]),fun i H=>∃xs,SqL K H a xs/\xs.length<=i⟩
theorem jd_{P:Program}{w:World}{K:PySem.W.Frag}{elts:List Expr}{x1}{pos:Pos}(a e it:Addr)(hne:e≠it):Turn P w K (.Tuple elts x1 pos) (Ite K a) [e,it] e (fun i h=>(∃old,IsEnum h e it i old)/\h.IsListIter it a i) where
 mem:=by simp
 obj:=fun i h st b hb=>by
  obtain⟨⟨old,h1⟩,o,h2,_,d⟩:=st
  rcases List.mem_cons.mp hb with rfl | hb
  ·exact⟨_,h1,fun v z=>by cases z⟩
  ·have z:b=it:=by simpa using hb
   subst z
   exact⟨o,h2,fun v z=>by rw[d] at z;cases z⟩
 keep:=fun i h h' st k=>by
  obtain⟨⟨old,h1⟩,h2⟩:=st
  exact⟨⟨old,k e (by simp) _ h1⟩,h2.at fun o q=>k it (by simp) o q⟩
 item:=by
  intro X hP hw hK hc i pins s σ H E I hf st hg
  subst hP hw hK
  obtain⟨⟨old,h1⟩,h2⟩:=st
  obtain⟨xs,x,hq,hx⟩:=hg
  obtain⟨its,rv,p,hz⟩:=I.list hq
  obtain⟨u,hu,ru⟩:=rv.get hx
  have e1:=Heap.lt_size h1
  refine wpAny_pyNext_enum_item h1 h2 p.isList (x:=u) (by simpa using hu) hne fun h' g1 g2 g3 g4 g5=>⟨_,rfl,?_⟩
  refine wpAny_letOwnedTupleGo_enum g1 fun h2' g6 g7=>?_
  have kk:∀b o,b∉[e,it]->s.heap.get? b=some o->h2'.get? b=some o:=fun b o hb q=>g7.extBut b o (fun z=>hb (by simp[z])) (g5 b o (fun z=>hb (by simp[z])) (fun z=>hb (by simp[z])) q)
  have tT:h2'.get? s.heap.objs.size=some {cls:=.type "tuple",data:=.seq #[.int i s.toks,u]}:=g7.extBut _ _ (Nat.ne_of_gt e1) g3
  have I1:=I.turnedNew (t':=s.toks+1) (T:=s.heap.objs.size) (o:=.tup [.int i,x]) kk hf (Nat.le_refl _) ⟨by show 2<=sizeLine;decide,[.int i s.toks,u],.cons ⟨_,rfl⟩ (.cons ru .nil),⟨_,tT,rfl,_,rfl⟩⟩
  have hn:H s.heap.objs.size=none:=I.hok.fresh (Nat.le_refl _)
  refine⟨.ref s.heap.objs.size,_,I1,rfl,⟨_,x,rfl,hn,fun ys hy=>by rw[I.list_inj hy hq];exact hx,rfl⟩,⟨⟨u,?_⟩,?_⟩,fun b hb=>?_⟩
  ·have z:((i+1:Nat):Int)=(i:Int)+1:=by lia
   rw[z];exact g6
  ·exact g2.extBut g7.extBut (Ne.symm hne)
  ·obtain⟨f0,_⟩:=hf b hb
   obtain⟨o,q⟩:∃o,s.heap.get? b=some o:=by
    rcases List.mem_cons.mp hb with rfl | hb
    ·exact⟨_,h1⟩
    ·have z:b=it:=by simpa using hb
     obtain⟨o,q,_⟩:=h2
     exact⟨o,by rw[z];exact q⟩
   rw[l_ (Nat.ne_of_lt (Heap.lt_size q))];exact f0
 done:=by
  intro X hP hw hK hc i pins s σ H E I hf st hg
  subst hP hw hK
  obtain⟨⟨old,h1⟩,h2⟩:=st
  obtain⟨xs,hq,hx⟩:=hg
  obtain⟨its,rv,p,hz⟩:=I.list hq
  have hl:=rv.length
  exact wpAny_pyNext_enum_end (I.ok.hd hc) h1 h2 p.isList (by simp;lia) fun h' eb=>⟨rfl,I.turnedL (t':=s.toks) (ch:=[e,it]) (fun b o hb q=>eb b o (fun z=>hb (by simp[z])) q) hf⟩
 self:=fun _ _ _ _ _ st h=>by
  obtain⟨⟨old,h1⟩,h2⟩:=st
  have hT:Shared.TypeIs _ (.ref e) "enumerate":=⟨_,h1,rfl⟩
  refine wpAny_pyIter_slot hT F.slot_enumerate_iter (wpAny_call_entry F.slot_enumerate_iter hT F.entry_enumerate_iter ?_ (F.args_enumerate_iter_1 _))
  show wpAny _ _ (ret (.ref e)) _ _ _
  exact wpAny_pure ⟨_,rfl,"enumerate",_,hT,F.slot_enumerate_next.lookup,h⟩
def Itz(K:PySem.W.Frag)(a b:Addr):It :=
 ⟨fun i H=>∃xs ys x y,SqL K H a xs/\SqL K H b ys/\xs[i]?=some x/\ys[i]?=some y,
  fun i H v H'=>∃t x y,v=.ref t/\H t=none/\(∀xs,SqL K H a xs->xs[i]?=some x)/\(∀ys,SqL K H b ys->ys[i]?=some y)/\H'=upd H t (.tup [x,y]),
  fun i H=>∃xs ys,SqL K H a xs/\SqL K H b ys/\(xs.length<=i\/ys.length<=i)⟩
theorem lq_{P:Program}{w:World}{K:PySem.W.Frag}{elts:List Expr}{x1}{pos:Pos}(a b z TI TO i1 i2:Addr)(D:ZipApart z TI TO i1 i2 a b):Turn P w K (.Tuple elts x1 pos) (Itz K a b) [z,TI,TO,i1,i2] z
  (fun i h=>IsZip h z TI TO .none/\IsPair h TI (.ref i1) (.ref i2)/\(∃u v,IsPair h TO u v)/\h.IsListIter i1 a i/\h.IsListIter i2 b i) where
 mem:=by simp
 obj:=fun i h st c hb=>by
  obtain⟨h1,h2,⟨u,v,h3⟩,⟨o4,h4,_,d4⟩,⟨o5,h5,_,d5⟩⟩:=st
  simp only[List.mem_cons,List.not_mem_nil,or_false] at hb
  rcases hb with rfl | rfl | rfl | rfl | rfl
  ·exact⟨_,h1,fun v z=>by cases z⟩
  ·exact⟨_,h2,fun v z=>by cases z⟩
  ·exact⟨_,h3,fun v z=>by cases z⟩
  ·exact⟨o4,h4,fun v z=>by rw[d4] at z;cases z⟩
  ·exact⟨o5,h5,fun v z=>by rw[d5] at z;cases z⟩
 keep:=fun i h h' st k=>by
  obtain⟨h1,h2,⟨u,v,h3⟩,h4,h5⟩:=st
  exact⟨k z (by simp) _ h1,k TI (by simp) _ h2,⟨u,v,k TO (by simp) _ h3⟩,h4.at fun o q=>k i1 (by simp) o q,h5.at fun o q=>k i2 (by simp) o q⟩
 item:=by
  intro X hP hw hK hc i pins s σ H E I hf st hg
  subst hP hw hK
  obtain⟨h1,h2,⟨u0,v0,h3⟩,h4,h5⟩:=st
  obtain⟨xs,ys,x,y,hqa,hqb,hx,hy⟩:=hg
  obtain⟨its,rv,p,hz⟩:=I.list hqa
  obtain⟨jts,rw',p',hz'⟩:=I.list hqb
  obtain⟨u,hu,ru⟩:=rv.get hx
  obtain⟨v,hv,rv'⟩:=rw'.get hy
  have e1:=Heap.lt_size h1
  have fpo:∀c∈[z,TI,TO,i1,i2],∃o,s.heap.get? c=some o:=fun c hb=>by
   obtain⟨o4,q4,_⟩:=h4
   obtain⟨o5,q5,_⟩:=h5
   simp only[List.mem_cons,List.not_mem_nil,or_false] at hb
   rcases hb with rfl | rfl | rfl | rfl | rfl
   ·exact⟨_,h1⟩
   ·exact⟨_,h2⟩
   ·exact⟨_,h3⟩
   ·exact⟨_,q4⟩
   ·exact⟨_,q5⟩
  refine wpAny_pyNext_zip_item D h1 h2 h3 h4 h5 p.isList p'.isList (x:=u) (y:=v) (by simpa using hu) (by simpa using hv) fun h' g1 g2 g3 g4 g5 g6 g7=>⟨_,rfl,?_⟩
  refine wpAny_letOwnedTupleGo_zip g1 fun h2' g8 g9=>?_
  have kk:∀c o,c∉[z,TI,TO,i1,i2]->s.heap.get? c=some o->h2'.get? c=some o:=fun c o hb q =>
   g9.extBut c o (fun q=>hb (by simp[q])) (g7 c o (fun q=>hb (by simp[q])) (fun q=>hb (by simp[q])) (fun q=>hb (by simp[q])) (fun q=>hb (by simp[q])) q)
  have tT:h2'.get? s.heap.objs.size=some {cls:=.type "tuple",data:=.seq #[u,v]}:=g9.extBut _ _ (Nat.ne_of_gt e1) g5
  have I1:=I.turnedNew (t':=s.toks) (T:=s.heap.objs.size) (o:=.tup [x,y]) kk hf (Nat.le_refl _) ⟨by show 2<=sizeLine;decide,[u,v],.cons ru (.cons rv' .nil),⟨_,tT,rfl,_,rfl⟩⟩
  have hn:H s.heap.objs.size=none:=I.hok.fresh (Nat.le_refl _)
  refine⟨.ref s.heap.objs.size,_,I1,rfl,⟨_,x,y,rfl,hn,fun zs hy'=>by rw[I.list_inj hy' hqa];exact hx,fun zs hy'=>by rw[I.list_inj hy' hqb];exact hy,rfl⟩,⟨g8,?_,⟨u,v,?_⟩,?_,?_⟩,fun c hb=>?_⟩
  ·exact g9.extBut _ _ D.TIz (g7 _ _ D.TIz D.TITO D.TIi1 D.TIi2 h2)
  ·exact g9.extBut _ _ D.TOz g2
  ·exact g3.extBut g9.extBut D.i1z
  ·exact g4.extBut g9.extBut D.i2z
  ·obtain⟨f0,_⟩:=hf c hb
   obtain⟨o,q⟩:=fpo c hb
   rw[l_ (Nat.ne_of_lt (Heap.lt_size q))];exact f0
 done:=by
  intro X hP hw hK hc i pins s σ H E I hf st hg
  subst hP hw hK
  obtain⟨h1,h2,⟨u0,v0,h3⟩,h4,h5⟩:=st
  obtain⟨xs,ys,hqa,hqb,hx⟩:=hg
  obtain⟨its,rv,p,hz⟩:=I.list hqa
  obtain⟨jts,rw',p',hz'⟩:=I.list hqb
  have hl:=rv.length
  have hl':=rw'.length
  refine wpAny_pyNext_zip_end (I.ok.hd hc) D h1 h2 h3 h4 h5 p.isList p'.isList ?_ fun h' eb=>⟨rfl,I.turnedL (t':=s.toks) (ch:=[z,TI,TO,i1,i2]) (fun c o hb q=>eb c o (fun q=>hb (by simp[q])) (fun q=>hb (by simp[q])) (fun q=>hb (by simp[q])) (fun q=>hb (by simp[q])) q) hf⟩
  rcases hx with hx | hx
  ·exact .inl (by simp;lia)
  ·exact .inr (by simp;lia)
 self:=fun _ _ _ _ _ st h=>wpAny_pyIter_zip st.1 h
section
variable{X:Cx}{l l2:Expr}{tl tl2:TE}{elts:List Expr}{p pos tpos:Pos}
def iEnum(K:PySem.W.Frag)(tl:TE):TI:=fun σ H R=>tl σ H fun x H1=>∃a,x=.ref a/\(∃xs,SqL K H1 a xs)/\R (Ite K a) H1
theorem jT_{x1}(hg:Gl X "enumerate")(hm:X.mg "enumerate"=none)(hl:PE X l tl)(hs:starEach [l] X.env=[(false,eval l X.env)]:=by rfl):PI X (.Tuple elts x1 tpos) (.Call (.Name "enumerate" p) [l] [] pos) (iEnum X.K tl):=by
 intro pins s σ H R I h
 refine Call_ (aP_ I hg hm boot_enumerate (PyProof.Rows.callWith_type1 ?_ hs rfl))
 rw[hs]
 show wpAny _ _ (spliced ((false,eval l X.env)::backTo pos (starEach [] X.env))) _ _ s
 refine Calls.spliced_cons (thn (hl pins s σ H _ I h) fun u s1 ⟨x,H1,I1,r1,q1⟩=>Calls.spliced_nil ?_)
 obtain⟨a,rfl,⟨xs,hq⟩,q⟩:=q1
 cases r1
 obtain⟨its,rv,pl,hz⟩:=I1.list hq
 refine call_enumerate_list pl.isList fun h' g1 g2 g3 g4=>?_
 have T:=jd_ (P:=X.prog) (w:=X.w) (K:=X.K) (elts:=elts) (x1:=x1) (pos:=tpos) a (s1.heap.objs.size+1) s1.heap.objs.size (Nat.ne_of_gt (Nat.lt_succ_self _))
 refine T.self _ 0 _ _ _ ⟨⟨_,g1⟩,g2⟩ ?_
 refine⟨s1.heap.objs.size+1,_,_,_,H1,rfl,I1.kept (t':=s1.toks) g4,T,⟨⟨_,g1⟩,g2⟩,fun b hb=>?_,q⟩
 have hb':s1.heap.objs.size<=b:=by
  rcases List.mem_cons.mp hb with rfl | hb
  ·exact Nat.le_succ _
  ·have z:b=s1.heap.objs.size:=by simpa using hb
   rw[z];exact Nat.le_refl _
 exact I1.fpOk hb' (I1.hok.fresh hb')
def iZip(K:PySem.W.Frag)(tl tl2:TE):TI:=fun σ H R=>tl σ H fun x H1=>tl2 σ H1 fun y H2=>∃a b,x=.ref a/\y=.ref b/\(∃xs,SqL K H2 a xs)/\(∃ys,SqL K H2 b ys)/\R (Itz K a b) H2
theorem jQ_{x1}(hg:Gl X "zip")(hm:X.mg "zip"=none)(hl:PE X l tl)(hl2:PE X l2 tl2)(hs:starEach [l,l2] X.env=[(false,eval l X.env),(false,eval l2 X.env)]:=by rfl)(hs2:starEach [l2] X.env=[(false,eval l2 X.env)]:=by rfl) :
  PI X (.Tuple elts x1 tpos) (.Call (.Name "zip" p) [l,l2] [] pos) (iZip X.K tl tl2):=by
 intro pins s σ H R I h
 refine Call_ (aP_ I hg hm boot_zip (PyProof.Rows.callWith_type1 ?_ (by rw[hs,hs2]) (by rw[hs2];rfl)))
 rw[hs]
 show wpAny _ _ (spliced ((false,eval l X.env)::(false,eval l2 X.env)::backTo pos (starEach [] X.env))) _ _ s
 refine Calls.spliced_cons (thn (hl pins s σ H _ I h) fun u s1 ⟨x,H1,I1,r1,q1⟩=>Calls.spliced_cons (thn (hl2 pins s1 σ H1 _ I1 q1) fun u2 s2 ⟨y,H2,I2,r2,q2⟩=>Calls.spliced_nil ?_))
 obtain⟨a,b,rfl,rfl,⟨xs,hqa⟩,⟨ys,hqb⟩,q⟩:=q2
 cases r1
 cases r2
 obtain⟨its,rv,pl,hz⟩:=I2.list hqa
 obtain⟨jts,rv',pl',hz'⟩:=I2.list hqb
 have la:a<s2.heap.objs.size:=by obtain⟨_,e,_⟩:=pl.isList;exact Heap.lt_size e
 have lb:b<s2.heap.objs.size:=by obtain⟨_,e,_⟩:=pl'.isList;exact Heap.lt_size e
 refine call_zip_2 pl.isList pl'.isList fun h' g1 g2 g3 g4 g5 g6 g7=>?_
 have D:ZipApart (s2.heap.objs.size+4) (s2.heap.objs.size+2) (s2.heap.objs.size+3) s2.heap.objs.size (s2.heap.objs.size+1) a b:=zipApart_new la lb
 have T:=lq_ (P:=X.prog) (w:=X.w) (K:=X.K) (elts:=elts) (x1:=x1) (pos:=tpos) a b _ _ _ _ _ D
 refine T.self _ 0 _ _ _ ⟨g1,g2,⟨_,_,g3⟩,g4,g5⟩ ?_
 refine⟨s2.heap.objs.size+4,_,_,_,H2,rfl,I2.kept (t':=s2.toks) g7,T,⟨g1,g2,⟨_,_,g3⟩,g4,g5⟩,fun c hb=>?_,q⟩
 have hb':s2.heap.objs.size<=c:=by
  simp only[List.mem_cons,List.not_mem_nil,or_false] at hb
  rcases hb with rfl | rfl | rfl | rfl | rfl
  ·exact Nat.le_add_right _ _
  ·exact Nat.le_add_right _ _
  ·exact Nat.le_add_right _ _
  ·exact Nat.le_refl _
  ·exact Nat.le_add_right _ _
 exact I2.fpOk hb' (I2.hok.fresh hb')
end
theorem ia_{K:PySem.W.Frag}{a b:Addr}{xs ys:List V}{G:V->Hp->(List V->Hp->Prop)->List V->Prop}{Fin:List V->Hp->Prop}{H:Hp}(Pv:Nat->List V->Hp->Prop)(hlen:xs.length=ys.length)(h0:Pv 0 [] H)
  (hl:∀i zs H,i<=xs.length->Pv i zs H->SqL K H a xs/\SqL K H b ys) (hz:∀i zs H,i<xs.length->Pv i zs H->zs.length<sizeLine)
  (hs:∀i x y zs H t,xs[i]?=some x->ys[i]?=some y->Pv i zs H->H t=none->G (.ref t) (upd H t (.tup [x,y])) (Pv (i+1)) zs) (hd:∀zs H,Pv xs.length zs H->Fin zs H) :
  ∃W:Nat->Nat->List V->Hp->Prop,(∃m,W 0 m [] H)/\∀i m zs H,W i m zs H->
   ((Itz K a b).stop i H/\Fin zs H)\/((Itz K a b).go i H/\zs.length<sizeLine/\∃Nx:List V->Hp->Prop,(∀ys' H',Nx ys' H'->∃m',m'<m/\W (i+1) m' ys' H')/\∀x H',(Itz K a b).yld i H x H'->G x H' Nx zs):=by
 refine⟨fun i m zs H=>m=xs.length-i/\i<=xs.length/\Pv i zs H,⟨xs.length,by simp,Nat.zero_le _,h0⟩,?_⟩
 rintro i m zs H ⟨rfl,hi,p⟩
 obtain⟨q1,q2⟩:=hl i zs H hi p
 by_cases hlt:i<xs.length
 ·have e1:xs[i]?=some xs[i]:=by simp[hlt]
  have e2:ys[i]?=some (ys[i]'(by lia)):=by simp
  refine .inr ⟨⟨xs,ys,_,_,q1,q2,e1,e2⟩,hz i zs H hlt p,Pv (i+1),fun ys' H' p'=>⟨xs.length-(i+1),by lia,rfl,hlt,p'⟩,fun v H' y=>?_⟩
  obtain⟨t,x,y,rfl,ht,y1,y2,rfl⟩:=y
  exact hs i x y zs H t (y1 xs q1) (y2 ys q2) p ht
 ·have e:i=xs.length:=by lia
  subst e
  exact .inl ⟨⟨xs,ys,q1,q2,.inl (Nat.le_refl _)⟩,hd zs H p⟩
theorem hW_{K:PySem.W.Frag}{a:Addr}{xs:List V}{g:TG}{tb:TS}{D:Ends}{σ:St}{H:Hp}(Pv:Nat->St->Hp->Prop)(h0:Pv 0 σ H)(hl:∀i σ H,i<=xs.length->Pv i σ H->SqL K H a xs)
  (hs:∀i x σ H t,xs[i]?=some x->Pv i σ H->H t=none->g (.ref t) σ (upd H t (.tup [.int i,x])) fun σ2 H2=>tb {D with nx:=Pv (i+1),ct:=Pv (i+1),bk:=D.nx} σ2 H2) (hd:∀ σ H,Pv xs.length σ H->D.nx σ H) :
  ∃W:Nat->Nat->St->Hp->Prop,(∃m,W 0 m σ H)/\∀i m σ H,W i m σ H->
   ((Ite K a).stop i H/\D.nx σ H)\/((Ite K a).go i H/\∃N:St->Hp->Prop,(∀ σ' H',N σ' H'->∃m',m'<m/\W (i+1) m' σ' H')/\∀x H',(Ite K a).yld i H x H'->g x σ H' fun σ2 H2=>tb {D with nx:=N,ct:=N,bk:=D.nx} σ2 H2):=by
 refine⟨fun i m σ H=>m=xs.length-i/\i<=xs.length/\Pv i σ H,⟨xs.length,by simp,Nat.zero_le _,h0⟩,?_⟩
 rintro i m σ H ⟨rfl,hi,p⟩
 have q:=hl i σ H hi p
 by_cases hlt:i<xs.length
 ·refine .inr ⟨⟨xs,xs[i],q,by simp[hlt]⟩,Pv (i+1),fun σ' H' p'=>⟨xs.length-(i+1),by lia,rfl,hlt,p'⟩,fun v H' y=>?_⟩
  obtain⟨t,x,rfl,ht,y1,rfl⟩:=y
  exact hs i x σ H t (y1 xs q) p ht
 ·have e:i=xs.length:=by lia
  subst e
  exact .inl ⟨⟨xs,q,Nat.le_refl _⟩,hd σ H p⟩
end L2
namespace Ma
def ups(b n L:Nat):List Nat:=(List.range L).map fun j=>n / b ^ j % b
def dws(b n L i:Nat):List Nat:=(List.range i).map fun j=>n / b ^ (L-1-j) % b
theorem hj_(b n i:Nat):ups b n (i+1)=ups b n i++[n / b ^ i % b]:=by
 unfold ups;rw[List.range_succ,List.map_append];rfl
theorem eJ_(b n L i:Nat):dws b n L (i+1)=dws b n L i++[n / b ^ (L-1-i) % b]:=by
 unfold dws;rw[List.range_succ,List.map_append];rfl
theorem iW_(b n L:Nat):(ups b n L).length=L:=by simp[ups]
theorem M_(b n L i:Nat):(dws b n L i).length=i:=by simp[dws]
theorem iV_(b n L:Nat):(ups b n L).reverse=dws b n L L:=by
 apply List.ext_getElem
 ·simp[ups,dws]
 ·intro i h1 h2
  simp[ups,dws]
theorem na_(b n i:Nat):n / b ^ i / b=n / b ^ (i+1):=by rw[Nat.div_div_eq_div_mul,Nat.pow_succ]
theorem gg_:∀(ps:List Nat),(∀p∈ps,1<=p/\p<=6)->ps.length<=ps.sum/\ps.sum<=6*ps.length
 | [],_=>by simp
 | p::r,h=>by
  have h1:=h p (by simp)
  have h2:=gg_ r fun q hq=>h q (List.mem_cons_of_mem _ hq)
  simp only[List.sum_cons,List.length_cons]
  lia
theorem dN_:∀(ps:List Nat),(ps.map fun(p:Nat)=>(p:Int)).sum=((ps.sum:Nat):Int)
 | []=>rfl
 | p::r=>by simp[dN_ r]
end Ma
namespace Ma
def cuts:List Nat->List Int->List (List Int)
 | [],_=>[]
 | p::ps,xs=>xs.take p::cuts ps (xs.drop p)
def psums(ps:List Nat)(xs:List Int):List Int:=(cuts ps xs).map List.sum
def ends:Nat->List Nat->List Nat
 | _,[]=>[]
 | o,p::ps=>(o+p)::ends (o+p) ps
theorem aL_(ps:List Nat)(xs:List Int):(psums ps xs).length=ps.length:=by
 unfold psums
 rw[List.length_map]
 induction ps generalizing xs with
 | nil=>rfl
 | cons p ps ih=>simp[cuts,ih]
end Ma
namespace Ma
def wts(b n L:Nat)(ws:List Int):List Int:=List.zipWith (fun(d:Nat) (x:Int)=>(d:Int)*x) (dws b n L L) ws
theorem fY_(b n L:Nat)(ws:List Int)(h:ws.length=L):(wts b n L ws).length=L:=by
 unfold wts;rw[List.length_zipWith,M_,h,Nat.min_self]
theorem iQ_{b n L:Nat}{ws:List Int}{i d:Nat}{x:Int}(h1:(dws b n L L)[i]?=some d)(h2:ws[i]?=some x):(wts b n L ws)[i]?=some ((d:Int)*x):=by
 unfold wts;rw[List.getElem?_zipWith,h1,h2]
theorem kK_{b n L d:Nat}(hb:0<b)(h:d∈dws b n L L):d<b:=by
 unfold dws at h
 obtain⟨j,_,rfl⟩:=List.mem_map.mp h
 exact Nat.mod_lt _ hb
theorem eL_{b n L:Nat}{ws:List Int}(hb0:0<b)(hb:b<=16)(hw:∀x∈ws,-9<=x/\x<=9):∀y∈wts b n L ws,-1000<=y/\y<=1000:=by
 intro y hy
 unfold wts at hy
 obtain⟨i,hi⟩:=List.getElem?_of_mem hy
 rw[List.getElem?_zipWith] at hi
 cases h1:(dws b n L L)[i]? with
 | none=>rw[h1] at hi;simp at hi
 | some d =>
  cases h2:ws[i]? with
  | none=>rw[h1,h2] at hi;simp at hi
  | some x =>
   rw[h1,h2] at hi
   have e:(d:Int)*x=y:=by simpa using hi
   have hd:=kK_ hb0 (List.mem_of_getElem? h1)
   have hx:=hw x (List.mem_of_getElem? h2)
   have d16:(d:Int)<=15:=by lia
   have d0:(0:Int)<=d:=by lia
   have a1:(d:Int)*x<=d*9:=Int.mul_le_mul_of_nonneg_left hx.2 d0
   have a2:(d:Int)*(-9)<=d*x:=Int.mul_le_mul_of_nonneg_left hx.1 d0
   lia
theorem ah_(ps:List Nat):∀xs:List Int,(cuts ps xs).length=ps.length:=by
 induction ps with
 | nil=>intro xs;rfl
 | cons p ps ih=>intro xs;simp[cuts,ih]
theorem aF_(ps:List Nat):∀(xs:List Int) (i p:Nat),ps[i]?=some p->(cuts ps xs)[i]?=some ((xs.drop (ps.take i).sum).take p):=by
 induction ps with
 | nil=>intro xs i p h;simp at h
 | cons q ps ih =>
  intro xs i p h
  cases i with
  | zero=>simp at h;subst h;simp[cuts]
  | succ i =>
   have h':ps[i]?=some p:=by simpa using h
   have:=ih (xs.drop q) i p h'
   simp only[cuts,List.getElem?_cons_succ,this,List.take_succ_cons,List.sum_cons,List.drop_drop]
theorem bA_{ps:List Nat}:∀ {xs row:List Int},row∈cuts ps xs->∀x∈row,x∈xs:=by
 induction ps with
 | nil=>intro xs row h;simp[cuts] at h
 | cons p ps ih =>
  intro xs row h x hx
  rcases List.mem_cons.mp h with rfl | h
  ·exact List.mem_of_mem_take hx
  ·exact List.mem_of_mem_drop (ih h x hx)
theorem aS_{ps:List Nat}(hp:∀p∈ps,p<=6):∀ {xs row:List Int},row∈cuts ps xs->row.length<=6:=by
 induction ps with
 | nil=>intro xs row h;simp[cuts] at h
 | cons p ps ih =>
  intro xs row h
  rcases List.mem_cons.mp h with rfl | h
  ·have:=hp p (by simp);rw[List.length_take];lia
  ·exact ih (fun q hq=>hp q (List.mem_cons_of_mem _ hq)) h
end Ma
namespace Ma
def maxL:List Int->Int
 | []=>0
 | [x]=>x
 | x::r=>max x (maxL r)
def minL:List Int->Int
 | []=>0
 | [x]=>x
 | x::r=>min x (minL r)
theorem x_:∀ns:List Int,0<ns.length->maxL ns∈ns/\∀n∈ns,n<=maxL ns
 | [],h=>by simp at h
 | [x],_=>by simp[maxL]
 | x::y::r,_=>by
  have ih:=x_ (y::r) (by simp)
  have e:maxL (x::y::r)=max x (maxL (y::r)):=rfl
  rw[e]
  refine⟨?_,fun n hn=>?_⟩
  ·rcases Int.le_total x (maxL (y::r)) with h | h
   ·rw[Int.max_eq_right h];exact List.mem_cons_of_mem _ ih.1
   ·rw[Int.max_eq_left h];simp
  ·rcases List.mem_cons.mp hn with rfl | hn
   ·exact Int.le_max_left _ _
   ·exact Int.le_trans (ih.2 n hn) (Int.le_max_right _ _)
theorem v_:∀ns:List Int,0<ns.length->minL ns∈ns/\∀n∈ns,minL ns<=n
 | [],h=>by simp at h
 | [x],_=>by simp[minL]
 | x::y::r,_=>by
  have ih:=v_ (y::r) (by simp)
  have e:minL (x::y::r)=min x (minL (y::r)):=rfl
  rw[e]
  refine⟨?_,fun n hn=>?_⟩
  ·rcases Int.le_total x (minL (y::r)) with h | h
   ·rw[Int.min_eq_left h];simp
   ·rw[Int.min_eq_right h];exact List.mem_cons_of_mem _ ih.1
  ·rcases List.mem_cons.mp hn with rfl | hn
   ·exact Int.min_le_left _ _
   ·exact Int.le_trans (Int.min_le_right _ _) (ih.2 n hn)
theorem cb_{ns:List Int}{m:Int}(h1:m∈ns)(h2:∀n∈ns,n<=m):m=maxL ns:=by
 have h:=x_ ns (List.length_pos_of_mem h1)
 exact Int.le_antisymm (h.2 m h1) (h2 _ h.1)
theorem ca_{ns:List Int}{m:Int}(h1:m∈ns)(h2:∀n∈ns,m<=n):m=minL ns:=by
 have h:=v_ ns (List.length_pos_of_mem h1)
 exact Int.le_antisymm (h2 _ h.1) (h.2 m h1)
end Ma
namespace L2
open PySem PySem.Spec PyProof.Rows
structure Def(P:Program)(w:World)(K:PySem.W.Frag)(mg:Str->Option Value)(base:Heap)(k:Nat)(x:Str)(ps:List Str)(sp:Sp):Prop where
 ex:∃f fd,FnOk P w K mg base CX0 k f fd ps sp/\mg x=some (.ref f)/\PySem.W.keepIn K (.ref f)=true/\Binds K fd ps []
section
variable{X:Cx}{k:Nat}{x:Str}{ps:List Str}{sp:Sp}{e a b c:Expr}{es:List Expr}{t:TA}{ta tb tc te:TE}{p pos:Pos}
theorem p_(D:Def X.prog X.w X.K X.mg X.base k x ps sp)(hr:Room k X.A)(hg:Gl X x)(ha:PA X (e::es) t)(hdb:(x==("__debug__":Str))=false:=by decide)
  (he:starEach (e::es) X.env=(false,eval e X.env)::starEach es X.env:=by rfl) (hpl:(backTo pos (starEach es X.env)).any (·.1)=false:=by rfl):PE X (.Call (.Name x p) (e::es) [] pos) (tCall sp [] E0 t):=by
 obtain⟨f,fd,G,h1,h2,h3⟩:=D.ex
 exact jV_ G hr hg h1 h2 h3 .nil pass0 ha hdb he hpl
theorem ixl(ha:PE X a ta)(hb:PE X b tb)(hs:dl_ b:=by intro _ _;rfl):PE X (.Subscript a b pos) (tOp (rIxL X.K) ta tb):=oM_ oh_ ha hb hs
theorem ixt(ha:PE X a ta)(hb:PE X b tb)(hs:dl_ b:=by intro _ _;rfl):PE X (.Subscript a b pos) (tOp (rIxT X.K) ta tb):=oM_ pj_ ha hb hs
theorem lenS(hm:X.mg "len"=none)(hg:Gl X "len")(ha:PE X a ta)(hs:starEach [a] X.env=[(false,eval a X.env)]:=by rfl) :
  PE X (.Call (.Name "len" p) [a] [] pos) (tCB (fun xs H Q=>∃p ys,xs=[.ref p]/\(SqL X.K H p ys\/SqT X.K H p ys)/\Q (.int ys.length) H) (tCons ta tNil)):=o_ fR_ hg hm PySem.boot_len (a_ ha d_ hs) (he:=hs)
theorem ixlK(K:PySem.W.Frag)(hK:X.K=K)(ha:PE X a ta)(hb:PE X b tb)(hs:dl_ b:=by intro _ _;rfl):PE X (.Subscript a b pos) (tOp (rIxL K) ta tb):=by
 subst hK
 exact ixl ha hb hs
theorem ixtK(K:PySem.W.Frag)(hK:X.K=K)(ha:PE X a ta)(hb:PE X b tb)(hs:dl_ b:=by intro _ _;rfl):PE X (.Subscript a b pos) (tOp (rIxT K) ta tb):=by
 subst hK
 exact ixt ha hb hs
theorem hr_(K:PySem.W.Frag)(hK:X.K=K):SlR X (rSlL K):=by
 subst hK
 exact bI_
theorem en_(K:PySem.W.Frag)(hK:X.K=K){k n:Nat}{u:TGs}(hc:X.calm=true)(h:PGs X es u)(hn:(assignEach es X.env).length=n:=by rfl)(hst:(assignEach es X.env).findIdx? (·.1)=none:=by rfl):PG X (.Tuple es k pos) (gTup K n u):=by
 subst hK
 exact fl_ hc h hn hst
theorem nJ_(P:Program)(w:World)(hP:X.prog=P)(hw:X.w=w)(hu:X.A.units+64<cLine):OpR X (compareOp .NotEq) (rEqD P w true):=by
 subst hP hw
 exact oS_ hu
theorem hV_{K:PySem.W.Frag}:GKeeps 2 (gTup K 2 (gCons (gName 0) (gCons (gName 1) gNil))):=fun v σ H Q q=>by
 obtain⟨a,xs,e,h1,h2,v0,r0,e0,v1,r1,e1,e2,q⟩:=q
 exact⟨a,xs,e,h1,h2,v0,r0,e0,v1,r1,e1,e2,⟨by simp,fun i hi=>by rw[List.getElem?_set_ne (by lia),List.getElem?_set_ne (by lia)]⟩,q⟩
theorem ep_{y:Str}{T:String}(hm:X.mg y=none)(hv:bootBuiltins y=some (.type T))(hg:Gl X y:=by rfl)(hn:y≠"__name__":=by decide)(hd:(y==("__debug__":Str))=false:=by decide):PE X (.Name y pos) (tC (.ty T)) :=
 nI_ (v:=.ty T) hg hm hv rfl hn hd
theorem bB_{K:PySem.W.Frag}{H:Hp}{q:Addr}{xs:List V}{i:Int}{v:V}{Q:VK}(h:H q=some (.lst xs))(e:atI xs i=some v)(k:Q v H):rIxL K (.ref q) (.int i) H Q:=⟨q,xs,i,v,rfl,rfl,SqL.of h,e,k⟩
theorem pB_{K:PySem.W.Frag}{H:Hp}{q:Addr}{xs:List V}{i:Int}{v:V}{Q:VK}(h:H q=some (.tup xs))(e:atI xs i=some v)(k:Q v H):rIxT K (.ref q) (.int i) H Q:=⟨q,xs,i,v,rfl,rfl,SqT.of h,e,k⟩
theorem ne_{xs:List V}{i:Int}{Pr:V->Prop}(h0:0<=i)(h1:i<xs.length)(h:∀x∈xs,Pr x):∃v,atI xs i=some v/\Pr v:=by
 obtain⟨j,rfl⟩:∃j:Nat,i=j:=⟨i.toNat,by lia⟩
 have hj:j<xs.length:=by lia
 exact⟨xs[j],V_ (by simp[hj]),h _ (List.getElem_mem hj)⟩
end
end L2
namespace Hv
open PySem L2
theorem sz{n:Nat}(h:n<=1000000):n<=sizeLine:=Nat.le_trans h (by decide)
theorem szl{n:Nat}(h:n<=1000000):n<sizeLine:=Nat.lt_of_le_of_lt h (by decide)
def Kp(fp:List Addr)(H H':Hp):Prop:=∀b o,H b=some o->b∉fp->H' b=some o
theorem Kp.refl{fp:List Addr}{H:Hp}:Kp fp H H:=fun _ _ h _=>h
theorem Kp.trans{fp:List Addr}{H H1 H2:Hp}(a:Kp fp H H1)(b:Kp fp H1 H2):Kp fp H H2:=fun c o h n=>b c o (a c o h n) n
theorem Kp.of{fp:List Addr}{H H':Hp}(a:Same H H'):Kp fp H H':=fun c o h _=>a c o h
theorem Kp.same{fp:List Addr}{H H1 H2:Hp}(a:Kp fp H H1)(b:Same H1 H2):Kp fp H H2:=fun c o h n=>b c o (a c o h n)
theorem f_{H:Hp}{a:Addr}{o:HO}(h:H a=none):Same H (upd H a o):=fun b u e=>by rw[l_ (k_ e h)];exact e
theorem B_{H H':Hp}{a:Addr}{o:HO}(s:Same H H')(h:H a=none):Same H (upd H' a o):=fun b u e=>by rw[l_ (k_ e h)];exact s b u e
theorem aQ_{fp:List Addr}{H H':Hp}{a:Addr}{o:HO}(s:Kp fp H H')(h:a∈fp\/H a=none):Kp fp H (upd H' a o):=fun b u e n=>by
 have:b≠a:=by
  rcases h with h | h
  ·exact fun z=>n (z▸h)
  ·exact k_ e h
 rw[l_ this];exact s b u e n
structure FrOk(b:Nat)(ps:List Nat)(ws:List Int):Prop where
 b2:2<=b
 b16:b<=16
 l2:2<=ps.length
 l4:ps.length<=4
 pr:∀p∈ps,1<=p/\p<=6
 wl:ws.length=ps.sum
 wr:∀x∈ws,-9<=x/\x<=9
abbrev natV(ps:List Nat):List V:=ps.map fun(p:Nat)=>V.int (p:Int)
theorem gM_(ps:List Nat):natV ps=(ps.map fun(p:Nat)=>(p:Int)).map V.int:=by simp[natV]
structure FrAt(H:Hp)(f a c:Addr)(b:Nat)(ps:List Nat)(ws:List Int):Prop where
 tp:H f=some (.tup [.int b,.ref a,.ref c])
 hp:H a=some (.lst (natV ps))
 hw:H c=some (.lst (ws.map V.int))
 ok:FrOk b ps ws
theorem FrAt.keep{H H':Hp}{f a c:Addr}{b:Nat}{ps:List Nat}{ws:List Int}(F:FrAt H f a c b ps ws)(s:Same H H'):FrAt H' f a c b ps ws:=⟨s _ _ F.tp,s _ _ F.hp,s _ _ F.hw,F.ok⟩
theorem FrOk.sum{b:Nat}{ps:List Nat}{ws:List Int}(F:FrOk b ps ws):2<=ps.sum/\ps.sum<=24:=by
 have h:=Ma.gg_ ps F.pr
 have h1:=F.l2
 have h2:=F.l4
 lia
theorem Kp.free{fp:List Addr}{H H':Hp}(s:Kp fp H H'){l:Addr}(h:H' l=none)(n:l∉fp):H l=none:=by
 cases q:H l with
 | none=>rfl
 | some o =>
  rw[s l o q n] at h
  cases h
theorem boot_isinstance:bootBuiltins "isinstance"=some (.builtin "isinstance"):=PyProof.Rows.boot_isinstance
theorem boot_int:bootBuiltins "int"=some (.type "int"):=PyProof.Rows.boot_int
theorem boot_bool:bootBuiltins "bool"=some (.type "bool"):=PyProof.Rows.boot_bool
theorem boot_list:bootBuiltins "list"=some (.type "list"):=PyProof.Rows.boot_list
theorem boot_tuple:bootBuiltins "tuple"=some (.type "tuple"):=PyProof.Rows.boot_tuple
theorem boot_all:bootBuiltins "all"=some (.builtin "all"):=PyProof.Rows.boot_all
theorem boot_sum:bootBuiltins "sum"=some (.builtin "sum"):=PyProof.Rows.boot_sum
theorem boot_max:bootBuiltins "max"=some (.builtin "max"):=PyProof.Rows.boot_max
theorem boot_min:bootBuiltins "min"=some (.builtin "min"):=PyProof.Rows.boot_min
structure Txt(mg:Str->Option Value):Prop where
 isi:mg "isinstance"=none
 int:mg "int"=none
 bool:mg "bool"=none
 list:mg "list"=none
 tuple:mg "tuple"=none
 all:mg "all"=none
 len:mg "len"=none
 sum:mg "sum"=none
 range:mg "range"=none
 max:mg "max"=none
 min:mg "min"=none
 rev:mg "reversed"=none
 zip:mg "zip"=none
 enum:mg "enumerate"=none
section
variable{K:PySem.W.Frag}
theorem kn_:PySem.W.kitOne K (.type "int") (.type "int")=some true:=by kernel_rfl
theorem ko_:PySem.W.kitOne K (.type "int") (.type "bool")=some false:=by kernel_rfl
theorem mU_:PySem.W.kitOne K (.type "bool") (.type "int")=some true:=by kernel_rfl
theorem mV_:PySem.W.kitOne K (.type "bool") (.type "bool")=some true:=by kernel_rfl
theorem mR_:PySem.W.kitOne K (.type "NoneType") (.type "int")=some false:=by kernel_rfl
theorem mQ_:PySem.W.kitOne K (.type "str") (.type "int")=some false:=by kernel_rfl
theorem mS_:PySem.W.kitOne K (.type "list") (.type "int")=some false:=by kernel_rfl
theorem mP_:PySem.W.kitOne K (.type "tuple") (.type "int")=some false:=by kernel_rfl
theorem mT_:PySem.W.kitOne K (.type "dict") (.type "int")=some false:=by kernel_rfl
theorem pe_:PySem.W.kitOne K (.type "list") (.type "list")=some true:=by kernel_rfl
theorem pd_:PySem.W.kitOne K (.type "tuple") (.type "tuple")=some true:=by kernel_rfl
end
inductive Thing(H:Hp):V->Prop where
 | non:Thing H .non
 | bl (b:Bool):Thing H (.bl b)
 | int (i:Int):Thing H (.int i)
 | str (x:Str):Thing H (.str x)
 | lst {a:Addr} {xs:List V} (e:H a=some (.lst xs)):Thing H (.ref a)
 | tup {a:Addr} {xs:List V} (e:H a=some (.tup xs)):Thing H (.ref a)
 | dK {a:Addr} {kvs:List (Key×V)} (e:H a=some (.dK kvs)):Thing H (.ref a)
theorem Thing.keep{H H':Hp}{v:V}(t:Thing H v)(s:Same H H'):Thing H' v:=by
 cases t with
 | non=>exact .non
 | bl b=>exact .bl b
 | int i=>exact .int i
 | str x=>exact .str x
 | lst e=>exact .lst (s _ _ e)
 | tup e=>exact .tup (s _ _ e)
 | dK e=>exact .dK (s _ _ e)
def pk_:V->Bool
 | .int _=>true
 | _=>false
def betw(v:V)(lo hi:Int):Bool:=match v with
 | .int i=>decide (lo<=i)&&decide (i<=hi)
 | _=>false
def dP_:Sp:=fun vs H Q _=>∃v,vs=[v]/\Thing H v/\Q (.bl (pk_ v)) H
def cO_:Sp:=fun vs H Q _=>∃v lo hi,vs=[v,.int lo,.int hi]/\Thing H v/\Q (.bl (betw v lo hi)) H
def gn_:Sp:=fun vs H Q _=>∃a xs lo hi,vs=[.ref a,.int lo,.int hi]/\H a=some (.lst xs)/\xs.length<=1000/\(∀x∈xs,Thing H x)/\∀H',Same H H'->Q (.bl (xs.all fun x=>betw x lo hi)) H'
def cM_:Sp:=fun vs H Q _=>∃f a c b ps ws,vs=[.ref f]/\FrAt H f a c b ps ws/\∀H',Same H H'->Q (.bl true) H'
def af_:Sp:=fun vs H Q _=>∃f a c b ps ws,vs=[.ref f]/\FrAt H f a c b ps ws/\∀H',Same H H'->Q .non H'
def N_:Sp:=fun vs H Q _=>∃f a c b ps ws,vs=[.ref f]/\FrAt H f a c b ps ws/\∀H',Same H H'->Q (.int ((b ^ ps.sum:Nat):Int)) H'
def bi_:Sp:=fun vs H Q _=>∃f a c b ps ws,∃n:Nat,vs=[.ref f,.int n]/\FrAt H f a c b ps ws/\n<b ^ ps.sum/\∀H',Same H H'->Q .non H'
def ai_:Sp:=fun vs H Q _=>∃f a c b ps ws,∃n:Nat,vs=[.ref f,.int n]/\FrAt H f a c b ps ws/\n<b ^ ps.sum/\
 ∀r H',H r=none->Same H H'->H' r=some (.lst (natV (Ma.dws b n ps.sum ps.sum)))->Q (.ref r) H'
theorem ld_{ps:List Nat}{lo hi:Nat}(h:∀p∈ps,lo<=p/\p<=hi):((natV ps).all fun x=>betw x lo hi)=true:=by
 rw[List.all_eq_true]
 intro x hx
 obtain⟨p,hp,rfl⟩:=List.mem_map.mp hx
 have:=h p hp
 simp only[betw,Bool.and_eq_true,decide_eq_true_eq]
 omega
theorem le_{ws:List Int}{lo hi:Int}(h:∀p∈ws,lo<=p/\p<=hi):((ws.map V.int).all fun x=>betw x lo hi)=true:=by
 rw[List.all_eq_true]
 intro x hx
 obtain⟨p,hp,rfl⟩:=List.mem_map.mp hx
 have:=h p hp
 simp only[betw,Bool.and_eq_true,decide_eq_true_eq]
 omega
theorem ge_{H:Hp}(ws:List Int):∀x∈ws.map V.int,Thing H x:=fun x hx=>by
 obtain⟨p,_,rfl⟩:=List.mem_map.mp hx
 exact .int p
theorem gd_{H:Hp}(ps:List Nat):∀x∈natV ps,Thing H x:=fun x hx=>by
 obtain⟨p,_,rfl⟩:=List.mem_map.mp hx
 exact .int p
def top (i : Nat) : Stmt := PySem.Challenge.pw_likehalves_k15_places_of_near_ones.main.body.getD i (.Pass ⟨0, 0, 0, 0⟩)
abbrev jB_:Stmt:=top 13
abbrev sBetw:Stmt:=top 14
abbrev hy_:Stmt:=top 15
abbrev ee_:Stmt:=top 16
abbrev cj_:Stmt:=top 17
abbrev ef_:Stmt:=top 18
abbrev bJ_:Stmt:=top 19
abbrev sCut:Stmt:=top 20
abbrev ck_:Stmt:=top 21
abbrev aJ_:Stmt:=top 22
abbrev cU_:Stmt:=top 23
abbrev bv_:Stmt:=top 25
abbrev bx_:Stmt:=top 26
abbrev bl_:Stmt:=top 27
abbrev ea_:Stmt:=top 29
abbrev hx_:Stmt:=top 30
abbrev cT_:Stmt:=top 31
abbrev dZ_:Stmt:=top 32
abbrev gt_:Stmt:=top 33
abbrev bw_:Stmt:=top 34
abbrev bV_:Stmt:=top 36
abbrev az_:Stmt:=top 37
abbrev al_:Stmt:=top 38
abbrev ab_:Stmt:=top 39
abbrev bK_:Stmt:=top 40
abbrev as_:Stmt:=top 41
abbrev cy_:Stmt:=top 42
abbrev by_:Stmt:=top 43
abbrev sCell:Stmt:=top 45
abbrev jC_:Stmt:=top 46
abbrev sTake:Stmt:=top 47
abbrev hA_:Stmt:=top 48
abbrev sCopy:Stmt:=top 49
abbrev sMany:Stmt:=top 50
abbrev eg_:Stmt:=top 51
abbrev dY_:Stmt:=top 52
abbrev ar_:Stmt:=top 53
abbrev cA_:Stmt:=top 54
abbrev cz_:Stmt:=top 55
abbrev ec_:Stmt:=top 56
abbrev cV_:Stmt:=top 57
abbrev jE_:Stmt:=top 58
abbrev sLawD:Stmt:=top 59
abbrev aA_:Stmt:=top 60
abbrev eb_:Stmt:=top 61
abbrev jD_:Stmt:=top 62
abbrev gu_:Stmt:=top 63
abbrev sLaw:Stmt:=top 64
end Hv
namespace L2
open PySem PySem.Spec PyProof.Rows
section
variable{κ:Type}[DecidableEq κ]
def valV(kvs:List (κ×V))(k:κ):Option V:=(kvs.find? fun kv=>decide (kv.1=k)).map (·.2)
def putK(kvs:List (κ×V))(k:κ)(v:V):List (κ×V) :=
 if (kvs.any fun kv=>decide (kv.1=k))=true then kvs.map (fun kv=>if kv.1=k then (kv.1,v) else kv) else kvs++[(k,v)]
theorem X_{p:κ×V}{r:List (κ×V)}{k:κ}(e:p.1=k):valV (p::r) k=some p.2:=by simp[valV,List.find?_cons,e]
theorem Y_{p:κ×V}{r:List (κ×V)}{k:κ}(e:¬ p.1=k):valV (p::r) k=valV r k:=by simp[valV,List.find?_cons,e]
theorem aW_(k:κ):∀kvs:List (κ×V),(kvs.any fun kv=>decide (kv.1=k))=(valV kvs k).isSome
 | []=>rfl
 | p::r=>by
  rw[List.any_cons]
  by_cases e:p.1=k
  ·simp only[X_ e,decide_eq_true e,Bool.true_or,Option.isSome_some]
  ·rw[Y_ e,decide_eq_false e,Bool.false_or];exact aW_ k r
theorem hi_(k j:κ)(y:V):∀kvs:List (κ×V),valV (kvs.map fun kv=>if kv.1=k then (kv.1,y) else kv) j=(valV kvs j).map fun x=>if j=k then y else x
 | []=>rfl
 | p::r=>by
  have ih:=hi_ k j y r
  rw[List.map_cons]
  by_cases h:p.1=k
  ·rw[if_pos h]
   by_cases e:p.1=j
   ·rw[X_ (p:=(p.1,y)) e,X_ e,Option.map_some,if_pos (e.symm.trans h)]
   ·rw[Y_ (p:=(p.1,y)) e,Y_ e,ih]
  ·rw[if_neg h]
   by_cases e:p.1=j
   ·rw[X_ (p:=p) e,X_ e,Option.map_some,if_neg (fun z=>h (e.trans z))]
   ·rw[Y_ (p:=p) e,Y_ e,ih]
theorem eQ_(k j:κ)(y:V):∀kvs:List (κ×V),valV kvs k=none->valV (kvs++[(k,y)]) j=if j=k then some y else valV kvs j
 | [],_=>by
  by_cases e:k=j
  ·rw[if_pos e.symm];exact X_ (p:=(k,y)) e
  ·rw[if_neg (fun z=>e z.symm)];exact Y_ (p:=(k,y)) e
 | p::r,hn=>by
  rw[List.cons_append]
  have hk:¬ p.1=k:=fun z=>by rw[X_ z] at hn;cases hn
  rw[Y_ hk] at hn
  have ih:=eQ_ k j y r hn
  by_cases e:p.1=j
  ·rw[X_ e,X_ e,if_neg (fun z=>hk (e.trans z))]
  ·rw[Y_ e,Y_ e,ih]
theorem ln_(kvs:List (κ×V))(k j:κ)(y:V):valV (putK kvs k y) j=if j=k then some y else valV kvs j:=by
 unfold putK
 by_cases a:(kvs.any fun kv=>decide (kv.1=k))=true
 ·rw[if_pos a,hi_]
  rw[aW_] at a
  by_cases e:j=k
  ·obtain⟨x,hx⟩:=Option.isSome_iff_exists.mp a
   rw[if_pos e,e,hx,Option.map_some,if_pos rfl]
  ·rw[if_neg e]
   cases valV kvs j with
   | none=>rfl
   | some x=>rw[Option.map_some,if_neg e]
 ·rw[if_neg a]
  refine eQ_ k j y kvs ?_
  rw[aW_] at a
  cases q:valV kvs k with
  | none=>rfl
  | some x=>rw[q] at a;exact(a rfl).elim
theorem bM_(kvs:List (κ×V))(k:κ)(v:V):(putK kvs k v).length<=kvs.length+1:=by
 unfold putK
 split
 ·rw[List.length_map];omega
 ·rw[List.length_append,List.length_cons,List.length_nil];omega
theorem hD_{kvs:List (κ×V)}{k:κ}(v:V)(h:valV kvs k=none):putK kvs k v=kvs++[(k,v)]:=by
 unfold putK
 rw[aW_,h]
 exact if_neg (by decide)
theorem RelO.isSome_eq{o:Option V}{u:Option Value}(r:RelO o u):o.isSome=u.isSome:=by
 cases o with
 | none=>cases u with
  | none=>rfl
  | some _=>exact(show False from r).elim
 | some _=>cases u with
  | none=>exact(show False from r).elim
  | some _=>rfl
theorem RelO.getD{o:Option V}{u:Option Value}{d:V}{d':Value}(r:RelO o u)(rd:RelV d d'):RelV (o.getD d) (u.getD d'):=by
 cases o with
 | none=>cases u with
  | none=>exact rd
  | some _=>exact(show False from r).elim
 | some _=>cases u with
  | none=>exact(show False from r).elim
  | some _=>exact r
theorem KV.val{kvs:List (κ×V)}{vs:List (κ×Value)}(r:KV kvs vs)(k:κ):RelO (valV kvs k) (valueAt vs k):=by
 unfold KV at r
 induction r with
 | nil=>exact True.intro
 | @cons p q ps qs h t ih =>
  obtain⟨h1,h2⟩:=h
  by_cases e:p.1=k
  ·have e':q.1=k:=h1.symm.trans e
   have b:valueAt (q::qs) k=some q.2:=by simp[valueAt,List.find?_cons,e']
   rw[X_ e,b];exact h2
  ·have e':¬ q.1=k:=fun z=>e (h1.trans z)
   have b:valueAt (q::qs) k=valueAt qs k:=by simp[valueAt,List.find?_cons,e']
   rw[Y_ e,b];exact ih
theorem KV.any{kvs:List (κ×V)}{vs:List (κ×Value)}(r:KV kvs vs)(k:κ):(kvs.any fun kv=>decide (kv.1=k))=vs.any fun kv=>decide (kv.1=k):=by
 unfold KV at r
 induction r with
 | nil=>rfl
 | cons h t ih=>rw[List.any_cons,List.any_cons,ih,h.1]
theorem KV.repl{kvs:List (κ×V)}{vs:List (κ×Value)}(r:KV kvs vs)(k:κ){y:V}{u:Value}(ry:RelV y u) :
  KV (kvs.map fun kv=>if kv.1=k then (kv.1,y) else kv) (vs.map fun kv=>if kv.1=k then (kv.1,u) else kv):=by
 unfold KV at r⊢
 induction r with
 | nil=>exact .nil
 | @cons p q ps qs h t ih =>
  rw[List.map_cons,List.map_cons]
  refine .cons ?_ ih
  obtain⟨h1,h2⟩:=h
  by_cases e:p.1=k
  ·rw[if_pos e,if_pos (h1.symm.trans e)];exact⟨h1,ry⟩
  ·rw[if_neg e,if_neg (fun z=>e (h1.trans z))];exact⟨h1,h2⟩
theorem KV.put{kvs:List (κ×V)}{vs:List (κ×Value)}(r:KV kvs vs)(k:κ){y:V}{u:Value}(ry:RelV y u):KV (putK kvs k y) (stored vs k u):=by
 unfold putK stored
 rw[r.any k]
 by_cases e:(vs.any fun kv=>decide (kv.1=k))=true
 ·rw[if_pos e,if_pos e];exact r.repl k ry
 ·rw[if_neg e,if_neg e];exact Paired.snoc r ⟨rfl,ry⟩
theorem KV.keys{kvs:List (κ×V)}{vs:List (κ×Value)}(r:KV kvs vs):kvs.map (·.1)=vs.map (·.1):=by
 unfold KV at r
 induction r with
 | nil=>rfl
 | cons h t ih=>rw[List.map_cons,List.map_cons,ih,h.1]
theorem KV.length{kvs:List (κ×V)}{vs:List (κ×Value)}(r:KV kvs vs):kvs.length=vs.length:=Paired.length r
end
theorem fC_{P:Program}{w:World}{k:Key}{u:Value}(r:RelV (kV k) u):(A_ P w).is k u=true:=by
 cases k with
 | inl i=>obtain⟨t,e⟩:=(show ∃t,u=Value.int i t from r);subst e;exact gO_ P w i t
 | inr x=>obtain⟨t,e⟩:=(show ∃t,u=Value.str x t from r);subst e;exact gN_ P w x t
theorem fD_{P:Program}{w:World}:∀ {ks:List Key} {us:List Value},Vals (ks.map kV) us->ItemsAre (A_ P w) ks us
 | [],_,r=>by rw[List.map_nil] at r;cases r;exact .nil
 | k::ks,_,r=>by
  rw[List.map_cons] at r
  cases r with
  | cons h t=>exact .cons (fC_ h) (fD_ t)
abbrev KT(H:Hp):List (List Key×V)->List (List Key×Addr×Value)->Prop:=Paired fun p q=>p.1=q.1/\H q.2.1=some (.tup (p.1.map kV))/\RelV p.2 q.2.2
theorem KT.val{H:Hp}{kvs:List (List Key×V)}{xs:List (List Key×Addr×Value)}(r:KT H kvs xs)(k:List Key):RelO (valV kvs k) ((atKey xs k).map (·.2)):=by
 induction r with
 | nil=>exact True.intro
 | @cons p q ps qs h t ih =>
  obtain⟨h1,_,h2⟩:=h
  by_cases e:p.1=k
  ·have e':q.1=k:=h1.symm.trans e
   have b:atKey (q::qs) k=some q.2:=by simp[atKey,List.find?_cons,e']
   rw[X_ e,b];exact h2
  ·have e':¬ q.1=k:=fun z=>e (h1.trans z)
   have b:atKey (q::qs) k=atKey qs k:=by simp[atKey,List.find?_cons,e']
   rw[Y_ e,b];exact ih
theorem KT.repl{H:Hp}{kvs:List (List Key×V)}{xs:List (List Key×Addr×Value)}(r:KT H kvs xs)(k:List Key){y:V}{u:Value}(ry:RelV y u) :
  KT H (kvs.map fun kv=>if kv.1=k then (kv.1,y) else kv) (xs.map (putAt k u)):=by
 induction r with
 | nil=>exact .nil
 | @cons p q ps qs h t ih =>
  rw[List.map_cons,List.map_cons]
  refine .cons ?_ ih
  obtain⟨h1,h2,h3⟩:=h
  unfold putAt
  by_cases e:p.1=k
  ·rw[if_pos e,if_pos (h1.symm.trans e)];exact⟨h1,h2,ry⟩
  ·rw[if_neg e,if_neg (fun z=>e (h1.trans z))];exact⟨h1,h2,h3⟩
theorem KT.put{H:Hp}{kvs:List (List Key×V)}{xs:List (List Key×Addr×Value)}(r:KT H kvs xs)(k:List Key){b:Addr}{y:V}{u:Value}(hb:H b=some (.tup (k.map kV)))(ry:RelV y u) :
  KT H (putK kvs k y) (storedH xs k b u):=by
 have e:(kvs.any fun kv=>decide (kv.1=k))=(atKey xs k).isSome:=by
  rw[aW_,(r.val k).isSome_eq,Option.isSome_map]
 unfold putK storedH
 rw[e]
 by_cases q:(atKey xs k).isSome=true
 ·rw[if_pos q,if_pos q];exact r.repl k ry
 ·rw[if_neg q,if_neg q];exact Paired.snoc r ⟨rfl,hb,ry⟩
theorem KT.keeps{H H':Hp}{kvs:List (List Key×V)}{xs:List (List Key×Addr×Value)}(r:KT H kvs xs)(ht:∀b ys,H b=some (.tup ys)->H' b=some (.tup ys)):KT H' kvs xs :=
 Paired.mapP r fun _ _ z=>⟨z.1,ht _ _ z.2.1,z.2.2⟩
section
variable{P:Program}{w:World}{H:Hp}{h:Heap}{a:Addr}
theorem oI_{u:HO}(ok:HOk P w H h)(e:Rd H a u):ObjOk P w H h a u:=e.ok ok
theorem cv_{kvs:List (Key×V)}(ok:HOk P w H h)(e:Rd H a (.dK kvs)):kvs.length<=sizeLine/\(a==sysModules)=false/\∃vs,KV kvs vs/\h.DictOf (A_ P w) a vs :=
 show ObjOk P w H h a (.dK kvs) from oI_ ok e
theorem iK_{kvs:List (Key×V)}(ok:HOk P w H h)(e:H a=some (.dK kvs)):kvs.length<=sizeLine/\(a==sysModules)=false/\∃vs,KV kvs vs/\h.DictOf (A_ P w) a vs:=cv_ ok (.inl e)
theorem dD_{ks:List Key}(ok:HOk P w H h)(e:H a=some (.tup (ks.map kV))):(tupleKind (A_ P w)).is h ks a:=by
 obtain⟨_,its,r,o,h1,h2,n,h3⟩:=(show ObjOk P w H h a (.tup (ks.map kV)) from ok a _ e)
 exact⟨o,its.toArray,n,h1,h2,h3,by simpa using fD_ r⟩
theorem gU_{kvs:List (List Key×V)}(ok:HOk P w H h)(e:Rd H a (.dT kvs)):kvs.length<=sizeLine/\(a==sysModules)=false/\
  ∃xs,KT H kvs xs/\h.DictOfH (tupleKind (A_ P w)) a xs:=by
 obtain⟨z,y,xs,r,o,es,ep,h1,h2,h3,h4,h5⟩:=(show ObjOk P w H h a (.dT kvs) from oI_ ok e)
 refine⟨z,y,xs,r,o,es,ep,h1,h2,h3,h4,fun x hx=>?_,h5⟩
 have all:∀ {l:List (List Key×V)} {m:List (List Key×Addr×Value)},KT H l m->∀x∈m,(tupleKind (A_ P w)).is h x.1 x.2.1:=by
  intro l m q
  induction q with
  | nil=>intro x hx;exact nomatch hx
  | @cons p q ps qs hq t ih =>
   intro x hx
   rcases List.mem_cons.mp hx with e | hx
   ·subst e
    exact dD_ ok (by rw[<-hq.1];exact hq.2.1)
   ·exact ih x hx
 exact all r x hx
theorem pJ_{kvs:List (List Key×V)}(ok:HOk P w H h)(e:H a=some (.dT kvs)):kvs.length<=sizeLine/\(a==sysModules)=false/\
  ∃xs,KT H kvs xs/\h.DictOfH (tupleKind (A_ P w)) a xs:=gU_ ok (.inl e)
end
def DGet(H:Hp)(a:Addr)(y:V)(r:Option V):Prop :=
 (∃kvs k,Rd H a (.dK kvs)/\y=kV k/\r=valV kvs k)\/∃kvs k b,Rd H a (.dT kvs)/\y=.ref b/\H b=some (.tup (k.map kV))/\r=valV kvs k
def DPut(H:Hp)(a:Addr)(y v:V)(H':Hp):Prop :=
 (∃kvs k,H a=some (.dK kvs)/\y=kV k/\kvs.length<sizeLine/\H'=upd H a (.dK (putK kvs k v)))\/
 ∃kvs k b,H a=some (.dT kvs)/\y=.ref b/\H b=some (.tup (k.map kV))/\kvs.length<sizeLine/\H'=upd H a (.dT (putK kvs k v))
theorem DGet.t{H:Hp}{a b:Addr}{kvs:List (List Key×V)}{k:List Key}(e:H a=some (.dT kvs))(eb:H b=some (.tup (k.map kV))):DGet H a (.ref b) (valV kvs k):=.inr ⟨kvs,k,b,.inl e,rfl,eb,rfl⟩
theorem DPut.k{H:Hp}{a:Addr}{kvs:List (Key×V)}{k:Key}{v:V}(e:H a=some (.dK kvs))(hl:kvs.length<sizeLine):DPut H a (kV k) v (upd H a (.dK (putK kvs k v))):=.inl ⟨kvs,k,e,rfl,hl,rfl⟩
theorem DPut.t{H:Hp}{a b:Addr}{kvs:List (List Key×V)}{k:List Key}{v:V}(e:H a=some (.dT kvs))(eb:H b=some (.tup (k.map kV)))(hl:kvs.length<sizeLine) :
  DPut H a (.ref b) v (upd H a (.dT (putK kvs k v))):=.inr ⟨kvs,k,b,e,rfl,eb,hl,rfl⟩
section
variable{X:Cx}{pins:List (Addr×Obj)}{σ:St}{H:Hp}{s:Shared}{a:Addr}{y v:V}{u r:Value}{o:Option V}{A:Around}{E:Value->Shared->Prop}
theorem Inv.big(I:Inv X pins σ H s):sysModules<s.heap.objs.size:=by
 have h:mainGlobals<s.heap.objs.size:=(I.mod.glob.keeps I.bk).lt
 exact Nat.lt_trans (by decide) h
theorem kS_{Q:Value->Shared->Prop}(hu:A.units+1<cLine)(I:Inv X pins σ H s)(g:DGet H a y (some v))(ry:RelV y u)(h:∀w' s',Inv X pins σ H s'->RelV v w'->Q w' s') :
  wpAny (model X.prog X.w) A (getItem (.ref a) u) Q E s:=by
 rcases g with⟨kvs,k,e,ey,l⟩ | ⟨kvs,k,b,e,ey,eb,l⟩
 ·subst ey
  obtain⟨z,hd,vs,rel,dd⟩:=cv_ I.hok e
  obtain⟨w',hw,rw'⟩:=RelO.some_of (v:=v) (o:=valueAt vs k) (by rw[l];exact rel.val k)
  exact wpAny_getItem_of (fC_ ry) dd.mapOf hw (h w' _ (I.tok _) rw')
 ·subst ey
  cases (show u=Value.ref b from ry)
  obtain⟨z,hd,xs,rel,dd⟩:=gU_ I.hok e
  obtain⟨w',hw,rw'⟩:=RelO.some_of (v:=v) (o:=(atKey xs k).map (·.2)) (by rw[l];exact rel.val k)
  obtain⟨p,hp,hp2⟩:=Option.map_eq_some_iff.mp hw
  refine wpAny_getItem_heap (tupleKind_room_in1 hu) (dD_ I.hok eb) dd hp ?_
  rw[hp2]
  exact h w' _ (I.tok _) rw'
theorem d_in{Q:Value->Shared->Prop}(hu:A.units+1<cLine)(I:Inv X pins σ H s)(g:DGet H a y o)(ry:RelV y u)(h:∀s',Inv X pins σ H s'->Q (.bool o.isSome) s') :
  wpAny (model X.prog X.w) A (compareOp .In u (.ref a)) Q E s:=by
 rcases g with⟨kvs,k,e,ey,l⟩ | ⟨kvs,k,b,e,ey,eb,l⟩
 ·subst ey
  obtain⟨z,hd,vs,rel,dd⟩:=cv_ I.hok e
  refine wpAny_in_of (fC_ ry) hd dd.mapOf ?_
  rw[<-(rel.val k).isSome_eq,<-l]
  exact h _ (I.tok _)
 ·subst ey
  cases (show u=Value.ref b from ry)
  obtain⟨z,hd,xs,rel,dd⟩:=gU_ I.hok e
  refine wpAny_in_heap (tupleKind_room_in1 hu) (dD_ I.hok eb) hd dd ?_
  have q:=(rel.val k).isSome_eq
  rw[Option.isSome_map] at q
  rw[<-q,<-l]
  exact h _ (I.tok _)
theorem ol_{Q:Value->Shared->Prop}(hu:A.units+1<cLine)(I:Inv X pins σ H s)(g:DGet H a y o)(ry:RelV y u)(h:∀s',Inv X pins σ H s'->Q (.bool (!o.isSome)) s') :
  wpAny (model X.prog X.w) A (compareOp .NotIn u (.ref a)) Q E s:=by
 rcases g with⟨kvs,k,e,ey,l⟩ | ⟨kvs,k,b,e,ey,eb,l⟩
 ·subst ey
  obtain⟨z,hd,vs,rel,dd⟩:=cv_ I.hok e
  refine wpAny_notIn_of (fC_ ry) hd dd.mapOf ?_
  rw[<-(rel.val k).isSome_eq,<-l]
  exact h _ (I.tok _)
 ·subst ey
  cases (show u=Value.ref b from ry)
  obtain⟨z,hd,xs,rel,dd⟩:=gU_ I.hok e
  refine wpAny_notIn_heap (tupleKind_room_in1 hu) (dD_ I.hok eb) hd dd ?_
  have q:=(rel.val k).isSome_eq
  rw[Option.isSome_map] at q
  rw[<-q,<-l]
  exact h _ (I.tok _)
theorem gX_{h':Heap}{t':Nat}{ob:HO}(I:Inv X pins σ H s)(mu:Mut (H a))(hs:Heap.SameBut a s.heap h')(he:∃q,h'.get? a=some q)(new:ObjOk X.prog X.w (upd H a ob) h' a ob) :
  Inv X pins σ (upd H a ob) {s with heap:=h',toks:=t'} :=
 I.write (x:=a) (e:=a) mu (.inl rfl) (fun b q hb z=>(hs.2 b hb).trans z) he new
theorem kL_{P:Program}{w:World}{H':Hp}{h':Heap}{kvs:List (Key×V)}{vs:List (Key×Value)}(z:kvs.length<=sizeLine)(hd:(a==sysModules)=false)(rel:KV kvs vs)(dd:h'.DictOf (A_ P w) a vs) :
  ObjOk P w H' h' a (.dK kvs):=⟨z,hd,vs,rel,dd⟩
theorem kR_{H':Hp}{Q:Unit->Shared->Prop}(hu:A.units+1<cLine)(I:Inv X pins σ H s)(g:DPut H a y v H')(ry:RelV y u)(rv:RelV v r)(h:∀s',Inv X pins σ H' s'->Q () s') :
  wpAny (model X.prog X.w) A (setItem (.ref a) u r) Q E s:=by
 rcases g with⟨kvs,k,e,ey,l,eH⟩ | ⟨kvs,k,b,e,ey,eb,l,eH⟩
 ·subst ey eH
  obtain⟨z,hd,vs,rel,dd⟩:=iK_ I.hok e
  have hz:vs.length<=sizeLine:=by rw[<-rel.length];exact z
  have hl:(putK kvs k v).length<=sizeLine:=by have:=bM_ kvs k v;omega
  refine wpAny_setItem_pairs (hsz:=hz) (fC_ ry) dd fun h' dd' hs=>h _ ?_
  have he:∃q,h'.get? a=some q:=let ⟨q,_,_,hq,_⟩:=dd';⟨q,hq⟩
  exact gX_ I (by rw[e];exact True.intro) hs he (kL_ hl hd (rel.put k rv) dd')
 ·subst ey eH
  cases (show u=Value.ref b from ry)
  obtain⟨z,hd,xs,rel,dd⟩:=pJ_ I.hok e
  have hz:xs.length<=sizeLine:=by rw[<-Paired.length rel];exact z
  have hl:(putK kvs k v).length<=sizeLine:=by have:=bM_ kvs k v;omega
  refine wpAny_setItem_heap (hsz:=hz) (tupleKind_room_in1 hu) (dD_ I.hok eb) dd fun h' dd' hs=>h _ ?_
  obtain⟨q,es,ep,hq,h2,h3,h4,_,h5⟩:=dd'
  refine gX_ I (by rw[e];exact True.intro) hs ⟨q,hq⟩ ⟨hl,hd,_,(rel.put k eb rv).keeps fun c ys ec=>?_,q,es,ep,hq,h2,h3,h4,h5⟩
  rw[l_ (pb_ ec e (fun z=>nomatch z))]
  exact ec
end
section
variable{X:Cx}{pins:List (Addr×Obj)}{σ:St}{H:Hp}{s:Shared}{a:Addr}{kvs:List (Key×V)}{k:Key}{u:Value}{A:Around}{E:Value->Shared->Prop}
theorem pK_{Q:Value->Shared->Prop}(I:Inv X pins σ H s)(e:Rd H a (.dK kvs))(h:∀t s',Inv X pins σ H s'->Q (.int kvs.length t) s'):wpAny (model X.prog X.w) A (call (.builtin "len") [.ref a]) Q E s:=by
 obtain⟨z,hd,vs,rel,dd⟩:=cv_ I.hok e
 refine call_len_dict hd dd (by rw[<-rel.length];rw[sizeLine_eq] at z;omega) ?_
 rw[<-rel.length]
 exact h _ _ (I.tok _)
end
def NoSl(i:Expr):Prop:=∀ov iv,subscripted i false ov iv=operate [ov,iv] (getItem ov iv)
theorem ns_{prog:Program}{w:World}{A:Around}{E:Value->Shared->Prop}{s:Shared}{env:Env}{value slice:Expr}{pos:Pos}{T id:String}{Q:Value->Shared->Prop}
  (hl:typeLookup (.type T) "__getitem__"=pure (some (.builtin id))) (hs:NoSl slice)
  (h:wpAny (model prog w) A (eval value env) (fun o s₁=>wpAny (model prog w) A (eval slice env) (fun i s₂=>s₂.TypeIs o T/\wpAny (model prog w) A (getItem o i) Q E s₂) E s₁) E s) :
  wpAny (model prog w) A (eval (.Subscript value slice pos) env) Q E s:=by
 refine Subscript_ (wpAny_mono h (fun o s₁ h₁=>wpAny_mono h₁ (fun i s₂ h₂=>?_) fun _ _ x=>x) fun _ _ x=>x)
 obtain⟨hT,h₂⟩:=h₂
 unfold subscriptTail
 refine wpAny_bind ?_
 rw[getitemInPython_of_ne hT.not_modules]
 refine wpAny_bind (wpAny_specialOf hT hl ?_)
 have fin:wpAny (model prog w) A (subscripted slice false o i) (fun r s₃=>wpAny (model prog w) A (letTemporaryGo value o r>>=fun _=>pure r) Q E s₃) E s₂:=by
  rw[hs o i]
  exact wpAny_operating (wpAny_mono h₂ (fun r s₃ h₃=>wpAny_bind (wpAny_letTemporaryGo (wpAny_pure h₃))) fun _ _ x=>x)
 first
  | exact wpAny_pure (wpAny_bind fin)
  | exact wpAny_bind (wpAny_pure (wpAny_bind fin))
  | exact wpAny_bind fin
theorem gV_{X:Cx}{pins:List (Addr×Obj)}{σ:St}{H:Hp}{s:Shared}{a:Addr}{y:V}{o:Option V}(I:Inv X pins σ H s)(g:DGet H a y o):s.TypeIs (.ref a) "dict":=by
 rcases g with⟨kvs,k,e,_,_⟩ | ⟨kvs,k,b,e,_,_,_⟩
 ·obtain⟨_,_,vs,_,dd⟩:=cv_ I.hok e
  exact dd.typeIs
 ·obtain⟨_,_,xs,_,dd⟩:=gU_ I.hok e
  exact dd.typeIs
def tDGet(td ty:TE):TE:=fun σ H Q=>td σ H fun x H1=>ty σ H1 fun y H2=>∃a v,x=.ref a/\DGet H2 a y (some v)/\Q v H2
def tDIn(ty td:TE):TE:=fun σ H Q=>ty σ H fun y H1=>td σ H1 fun x H2=>∃a o,x=.ref a/\DGet H2 a y o/\Q (.bl o.isSome) H2
def nr_(ty td:TE):TE:=fun σ H Q=>ty σ H fun y H1=>td σ H1 fun x H2=>∃a o,x=.ref a/\DGet H2 a y o/\Q (.bl (!o.isSome)) H2
def sDPut(td ty tv:TE):TS:=fun D σ H=>tv σ H fun v H1=>td σ H1 fun x H2=>ty σ H2 fun y H3=>∃a H4,x=.ref a/\DPut H3 a y v H4/\D.nx σ H4
section
variable{X:Cx}{o i e value:Expr}{pos pos' tpos:Pos}{td ty tv:TE}
theorem bL_(hu:X.A.units+1<cLine)(ho:PE X o td)(hi:PE X i ty)(hs:NoSl i):PE X (.Subscript o i pos) (tDGet td ty):=by
 intro pins s σ H Q I h
 refine ns_ PySem.F.slot_dict_getitem.lookup hs (thn (ho pins s σ H _ I h) fun u s1 ⟨x,H1,I1,rx,q1⟩=>thn (hi pins s1 σ H1 _ I1 q1) fun iv s2 ⟨y,H2,I2,ry,a,v,ex,g,q2⟩=>?_)
 subst ex
 obtain rfl:u=Value.ref a:=rx
 exact⟨gV_ I2 g,kS_ hu I2 g ry fun w' s3 I3 rw'=>⟨v,H2,I3,rw',q2⟩⟩
theorem oQ_(hu:X.A.units+1<cLine)(hi:PE X i ty)(ho:PE X o td):PC X .In i o (tDIn ty td):=by
 intro pins s σ H Q I h
 refine thn (hi pins s σ H _ I h) fun iv s1 ⟨y,H1,I1,ry,q1⟩=>thn (ho pins s1 σ H1 _ I1 q1) fun u s2 ⟨x,H2,I2,rx,a,ov,ex,g,q2⟩=>?_
 subst ex
 obtain rfl:u=Value.ref a:=rx
 exact d_in hu I2 g ry fun s3 I3=>⟨.bl ov.isSome,H2,I3,rfl,q2⟩
theorem jW_(hu:X.A.units+1<cLine)(hi:PE X i ty)(ho:PE X o td):PC X .NotIn i o (nr_ ty td):=by
 intro pins s σ H Q I h
 refine thn (hi pins s σ H _ I h) fun iv s1 ⟨y,H1,I1,ry,q1⟩=>thn (ho pins s1 σ H1 _ I1 q1) fun u s2 ⟨x,H2,I2,rx,a,ov,ex,g,q2⟩=>?_
 subst ex
 obtain rfl:u=Value.ref a:=rx
 exact ol_ hu I2 g ry fun s3 I3=>⟨.bl (!ov.isSome),H2,I3,rfl,q2⟩
theorem ei_(hu:X.A.units+1<cLine)(ho:PE X o td)(hi:PE X i ty)(hv:PE X value tv)(hs:swapsWith value (some (.Subscript o i pos')) pos.line X.env=pure false) :
  PS X (.Assign [.Subscript o i pos'] value pos) (sDPut td ty tv):=by
 intro pins s σ H D I h
 refine wpAny_Assign_Subscript (thn (hv pins s σ H _ I h) fun r s1 ⟨v,H1,I1,rv,q1⟩=>thn (ho pins s1 σ H1 _ I1 q1) fun u s2 ⟨x,H2,I2,rx,q2⟩=>thn (hi pins s2 σ H2 _ I2 q2) fun iv s3 ⟨y,H3,I3,ry,a,H4,ex,g,q3⟩=>?_) hs
 subst ex
 obtain rfl:u=Value.ref a:=rx
 exact kR_ hu I3 g ry rv fun s4 I4=>⟨σ,H4,I4,q3⟩
end
theorem hZ_{P:Program}{w:World}{H:Hp}(h:Heap)(hb:sysModules<h.objs.size):ObjOk P w H (h.push {cls:=.type "dict",data:=.dict #[]}) h.objs.size (.dK []) :=
 ⟨Nat.zero_le _,beq_eq_false_iff_ne.mpr (Ne.symm (Nat.ne_of_lt hb)),[],.nil,Heap.DictOf.new h⟩
theorem mk_{P:Program}{w:World}{H:Hp}(h:Heap)(hb:sysModules<h.objs.size):ObjOk P w H (h.push {cls:=.type "dict",data:=.dict #[]}) h.objs.size (.dT []) :=
 ⟨Nat.zero_le _,beq_eq_false_iff_ne.mpr (Ne.symm (Nat.ne_of_lt hb)),[],.nil,_,#[],0,Heap.get?_push_size _ rfl,⟨rfl,rfl,rfl⟩,rfl,rfl,List.nodup_nil⟩
def oB_:TE:=fun _ H Q=>∀p,H p=none->Q (.ref p) (upd H p (.dK []))
def oA_:TE:=fun _ H Q=>∀p,H p=none->Q (.ref p) (upd H p (.dT []))
section
variable{X:Cx}{pos:Pos}
theorem cD_:PE X (.Dict [] [] pos) oB_:=fun pins s σ H Q I h =>
 wpAny_Dict_empty ⟨.ref s.heap.objs.size,_,I.laid (a:=s.heap.objs.size) (o:=.dK []) (t':=s.toks) (fun _ _ q=>Heap.get?_push_of_some _ q) (Nat.le_refl _) (hZ_ s.heap I.big),rfl,h _ (I.hok.fresh (Nat.le_refl _))⟩
theorem lC_:PE X (.Dict [] [] pos) oA_:=fun pins s σ H Q I h =>
 wpAny_Dict_empty ⟨.ref s.heap.objs.size,_,I.laid (a:=s.heap.objs.size) (o:=.dT []) (t':=s.toks) (fun _ _ q=>Heap.get?_push_of_some _ q) (Nat.le_refl _) (mk_ s.heap I.big),rfl,h _ (I.hok.fresh (Nat.le_refl _))⟩
end
def jk_:List (TE×TE)->St->Hp->(List (V×V)->Hp->Prop)->Prop
 | [],_,H,Q=>Q [] H
 | (tk,tv)::r,σ,H,Q=>tk σ H fun x H1=>tv σ H1 fun y H2=>jk_ r σ H2 fun ps H3=>Q ((x,y)::ps) H3
abbrev VV:List (V×V)->List (Value×Value)->Prop:=Paired fun p q=>RelV p.1 q.1/\RelV p.2 q.2
def PPs(X:Cx)(pos:Pos)(keys:List (Option Expr))(values:List Expr)(trs:List (TE×TE)):Prop :=
 ∀(pins:List (Addr×Obj)) (s:Shared) (σ:St) (H:Hp) (Q:List (V×V)->Hp->Prop),Inv X pins σ H s->jk_ trs σ H Q->
  wpAny (model X.prog X.w) X.A (evalPairs (pairTrees keys values X.env pos)) (fun vs s'=>∃ps H',Inv X pins σ H' s'/\VV ps vs/\Q ps H') X.xe s
theorem jO_{X:Cx}{pos:Pos}:PPs X pos [] [] []:=fun pins s σ H Q I h=>pairTrees_nil_walk ⟨[],H,I,.nil,h⟩
theorem hF_{X:Cx}{pos:Pos}{k v:Expr}{ks:List (Option Expr)}{vs:List Expr}{tk tv:TE}{trs:List (TE×TE)}(hk:PE X k tk)(hv:PE X v tv)(hr:PPs X pos ks vs trs) :
  PPs X pos (some k::ks) (v::vs) ((tk,tv)::trs):=fun pins s σ H Q I h =>
 pairTrees_cons_walk (thn (hk pins s σ H _ I h) fun u s1 ⟨x,H1,I1,rx,q1⟩=>thn (hv pins s1 σ H1 _ I1 q1) fun w2 s2 ⟨y,H2,I2,ry,q2⟩ =>
  thn (hr pins s2 σ H2 _ I2 q2) fun ws s3 ⟨ps,H3,I3,rel,q3⟩=>⟨(x,y)::ps,H3,I3,.cons ⟨rx,ry⟩ rel,q3⟩)
def ak_(kvs more:List (Key×V)):List (Key×V):=more.foldl (fun acc kv=>putK acc kv.1 kv.2) kvs
theorem KV.merge:∀ {more:List (Key×V)} {rs:List (Key×Value)} {kvs:List (Key×V)} {vs:List (Key×Value)},KV more rs->KV kvs vs->KV (ak_ kvs more) (merged vs rs):=by
 intro more rs kvs vs r
 unfold KV at r
 induction r generalizing kvs vs with
 | nil=>intro q;exact q
 | @cons p q ps qs h t ih =>
  intro r0
  have e:KV (putK kvs p.1 p.2) (stored vs q.1 q.2):=by
   have:=r0.put p.1 h.2
   rw[<-h.1];exact this
  exact ih e
theorem ba_:∀(more kvs:List (Key×V)),(ak_ kvs more).length<=kvs.length+more.length
 | [],kvs=>by show kvs.length<=kvs.length+0;omega
 | p::r,kvs=>by
  have h1:=ba_ r (putK kvs p.1 p.2)
  have h2:=bM_ kvs p.1 p.2
  show(ak_ (putK kvs p.1 p.2) r).length<=_
  rw[List.length_cons];omega
theorem dF_{P:Program}{w:World}:∀ {kvs:List (Key×V)} {ws:List (Value×Value)},VV (kvs.map fun kv=>(kV kv.1,kv.2)) ws->∃rs,Carries (A_ P w) ws rs/\KV kvs rs
 | [],_,r=>by rw[List.map_nil] at r;cases r;exact⟨[],True.intro,.nil⟩
 | p::kvs,_,r=>by
  rw[List.map_cons] at r
  cases r with
  | @cons a b as bs h t =>
   obtain⟨rs,c,q⟩:=dF_ (P:=P) (w:=w) t
   obtain⟨b1,b2⟩:=b
   exact⟨(p.1,b2)::rs,⟨fC_ h.1,rfl,c⟩,.cons ⟨rfl,h.2⟩ q⟩
def tDisp(trs:List (TE×TE)):TE:=fun σ H Q=>∀p,H p=none->jk_ trs σ (upd H p (.dK [])) fun ps H2=>H2 p=some (.dK [])/\∃kvs:List (Key×V),ps=kvs.map (fun kv=>(kV kv.1,kv.2))/\kvs.length<=15/\Q (.ref p) (upd H2 p (.dK (ak_ [] kvs)))
theorem jU_{X:Cx}{pos:Pos}{keys:List (Option Expr)}{values:List Expr}{trs:List (TE×TE)}(h:PPs X pos keys values trs)(hall:keys.all (·.isSome)=true)(hl:keys.length=values.length)(h0:keys≠[])
  (h15:keys.length<=15):PE X (.Dict keys values pos) (tDisp trs):=by
 intro pins s σ H Q I q
 have hn:=I.hok.fresh (Nat.le_refl s.heap.objs.size)
 have I1:=I.laid (a:=s.heap.objs.size) (o:=.dK []) (h':=s.heap.push {cls:=.type "dict",data:=.dict #[]}) (t':=s.toks) (fun _ _ q=>Heap.get?_push_of_some _ q) (Nat.le_refl _) (hZ_ s.heap I.big)
 refine wpAny_Dict_walk (knd:=A_ X.prog X.w) hall hl h0 h15 (thn (h pins _ σ _ _ I1 (q _ hn)) fun ws s2 ⟨ps,H2,I2,rel,e,kvs,ep,lk,q2⟩=>?_)
 subst ep
 obtain⟨rs,c,rk⟩:=dF_ (P:=X.prog) (w:=X.w) rel
 obtain⟨z,hd,vs0,r0,dd⟩:=iK_ I2.hok e
 cases r0
 refine⟨rs,c,dd,fun h' dd' hs=>⟨.ref s.heap.objs.size,_,?_,rfl,q2⟩⟩
 have hz:(ak_ [] kvs).length<=sizeLine:=by
  have h1:=ba_ kvs []
  rw[List.length_nil] at h1
  rw[sizeLine_eq];omega
 have he:∃q,h'.get? s.heap.objs.size=some q:=let ⟨q,_,_,hq,_⟩:=dd';⟨q,hq⟩
 exact gX_ I2 (by rw[e];exact True.intro) hs he (kL_ hz hd (rk.merge .nil) dd')
structure M2(X:Cx)(o:Expr)(m:Str)(apos:Pos)(e f:Expr)(cpos:Pos):Prop where
 base:attributeBase o m X.env (eval o X.env)=eval o X.env
 few:((backTo cpos (starEach [e,f] X.env)).all (fun x=>!x.1)&&(backToKw cpos (keywordEach [] X.env)).all (fun x=>x.1.isSome)
  && decide (([e,f]:List Expr).length+([]:List Keyword).length+(if ([]:List Keyword).isEmpty then 0 else 1)<30))=true
 line:(apos.endLine==cpos.line)=true
 trees:backTo cpos (starEach [e,f] X.env)=[(false,eval e X.env),(false,eval f X.env)]
def IsD(H:Hp)(a:Addr):Prop:=(∃kvs,Rd H a (.dK kvs))\/∃kvs,Rd H a (.dT kvs)
theorem pl_{X:Cx}{pins:List (Addr×Obj)}{σ:St}{H:Hp}{s:Shared}{a:Addr}(I:Inv X pins σ H s)(d:IsD H a) :
  s.TypeIs (.ref a) "dict"/\(∀b,Value.ref a=.ref b->∃ob,s.heap.get? b=some ob/\ob.dict=none)/\(a==sysModules)=false:=by
 rcases d with⟨kvs,e⟩ | ⟨kvs,e⟩
 ·obtain⟨_,hd,vs,_,dd⟩:=cv_ I.hok e
  refine⟨dd.typeIs,fun b q=>?_,hd⟩
  cases q
  obtain⟨ob,_,_,h1,h2,_⟩:=dd
  exact⟨ob,h1,h2.2.1⟩
 ·obtain⟨_,hd,xs,_,dd⟩:=gU_ I.hok e
  refine⟨dd.typeIs,fun b q=>?_,hd⟩
  cases q
  obtain⟨ob,_,_,h1,h2,_⟩:=dd
  exact⟨ob,h1,h2.2.1⟩
section
variable{X:Cx}{pins:List (Addr×Obj)}{σ:St}{H:Hp}{s:Shared}{a:Addr}{y d:V}{u r:Value}{o:Option V}{A:Around}{E:Value->Shared->Prop}
theorem pv_{Q:Value->Shared->Prop}(hu:A.units+1<cLine)(I:Inv X pins σ H s)(g:DGet H a y o)(ry:RelV y u)(rd:RelV d r)(h:∀w' s',Inv X pins σ H s'->RelV (o.getD d) w'->Q w' s') :
  wpAny (model X.prog X.w) A (call (.builtin "dict.get") [.ref a,u,r]) Q E s:=by
 rcases g with⟨kvs,k,e,ey,l⟩ | ⟨kvs,k,b,e,ey,eb,l⟩
 ·subst ey
  obtain⟨z,hd,vs,rel,dd⟩:=cv_ I.hok e
  refine call_meetsIn PySem.F.slot_dict_get dd.typeIs PySem.F.entry_dict_get (PySem.F.args_dict_get_3 _ _ _) (meets_dict_get_default (A_ X.prog X.w) a (fC_ ry) hd r) ⟨_,dd.mapOf,h _ _ (I.tok _) ?_⟩
  rw[l]
  exact(rel.val k).getD rd
 ·subst ey
  cases (show u=Value.ref b from ry)
  obtain⟨z,hd,xs,rel,dd⟩:=gU_ I.hok e
  refine call_meetsIn PySem.F.slot_dict_get dd.typeIs PySem.F.entry_dict_get (PySem.F.args_dict_get_3 _ _ _) (meetsH_dict_get_default (tupleKind (A_ X.prog X.w)) a b hd r) ⟨tupleKind_room_in1 hu,k,xs,dD_ I.hok eb,dd,h _ _ (I.tok _) ?_⟩
  rw[l]
  exact(rel.val k).getD rd
end
def oC_(td ty tx:TE):TE:=fun σ H Q=>td σ H fun x H1=>∃a,x=.ref a/\IsD H1 a/\ty σ H1 fun y H2=>tx σ H2 fun z H3=>∃o,DGet H3 a y o/\Q (o.getD z) H3
section
variable{X:Cx}{o e f:Expr}{apos cpos:Pos}{td ty tx:TE}
theorem cE_(hu:X.A.units+1<cLine)(ho:PE X o td)(he:PE X e ty)(hf:PE X f tx)(m:M2 X o "get" apos e f cpos):PE X (.Call (.Attribute o "get" apos) [e,f] [] cpos) (oC_ td ty tx):=by
 intro pins s σ H Q I h
 refine wpAny_Call_method m.base m.few m.line PySem.F.plainAttrs_dict PySem.F.slot_dict_get PySem.F.type_dict_get (thn (ho pins s σ H _ I h) fun u s1 ⟨x,H1,I1,rx,a,ex,d,q1⟩=>?_)
 subst ex
 obtain rfl:u=Value.ref a:=rx
 obtain⟨t1,t2,_⟩:=pl_ I1 d
 refine⟨t1,t2,?_⟩
 rw[m.trees]
 refine Calls.callWith_builtin rfl (Calls.evalArgs_plain (Calls.spliced_cons (thn (he pins s1 σ H1 _ I1 q1) fun iv s2 ⟨y,H2,I2,ry,q2⟩ =>
  Calls.spliced_cons (thn (hf pins s2 σ H2 _ I2 q2) fun fv s3 ⟨z,H3,I3,rz,ov,g,q3⟩=>Calls.spliced_nil ?_))))
 exact pv_ hu I3 g ry rz fun w' s4 I4 rw'=>⟨_,H3,I4,rw',q3⟩
end
section
variable{X:Cx}{pins:List (Addr×Obj)}{σ:St}{H:Hp}{s:Shared}{a:Addr}{kvs:List (Key×V)}{A:Around}{E:Value->Shared->Prop}
end
section
variable{X:Cx}{pins:List (Addr×Obj)}{σ:St}{H:Hp}{s:Shared}{a:Addr}{y:V}{u:Value}{A:Around}{E:Value->Shared->Prop}
end
section
variable{X:Cx}
theorem lb_:CallR X (.builtin "len") (fun xs H Q=>∃a kvs,xs=[V.ref a]/\H a=some (.dK kvs)/\Q (.int kvs.length) H):=by
 intro pins s σ H xs us Q I r h
 obtain⟨a,kvs,rfl,ha,q⟩:=h
 obtain⟨u,rfl,ru⟩:=vals1 r
 cases ru
 exact pK_ I (.inl ha) fun t s' I'=>⟨.int kvs.length,H,I',⟨t,rfl⟩,q⟩
end
section
variable{κ:Type}[DecidableEq κ]
theorem lo_{kvs:List (κ×V)}{k:κ}(h:valV kvs k=none):¬ k∈kvs.map (·.1):=by
 intro m
 obtain⟨p,hp,e⟩:=List.mem_map.mp m
 have q:(kvs.any fun kv=>decide (kv.1=k))=true:=List.any_eq_true.mpr ⟨p,hp,decide_eq_true e⟩
 rw[aW_,h] at q
 exact absurd q (by simp)
theorem kl_:∀ {l:List κ} {k:κ},l.Nodup->¬ k∈l->(l++[k]).Nodup
 | [],k,_,_=>by simp
 | a::r,k,h,hk=>by
  obtain⟨h1,h2⟩:=List.nodup_cons.mp h
  show(a::(r++[k])).Nodup
  refine List.nodup_cons.mpr ⟨fun m=>?_,kl_ h2 fun m=>hk (List.mem_cons.mpr (Or.inr m))⟩
  rcases List.mem_append.mp m with q | q
  ·exact h1 q
  ·exact hk (List.mem_cons.mpr (Or.inl (List.mem_singleton.mp q).symm))
theorem oa_{kvs:List (κ×V)}{k:κ}(v:V)(hn:(kvs.map (·.1)).Nodup)(h:valV kvs k=none):((putK kvs k v).map (·.1)).Nodup:=by
 rw[hD_ v h,List.map_append]
 exact kl_ hn (lo_ h)
end
section
variable{X:Cx}
theorem eD_{ns:List Int}{its:List Value}(rv:Vals (ns.map V.int) its){i:Nat}{v:Value}(hv:its[i]?=some v):∃n t,ns[i]?=some n/\v=.int n t:=by
 cases eb:ns[i]? with
 | none =>
  have:=rv.none_of (i:=i) (by rw[List.getElem?_map,eb];rfl)
  rw[this] at hv;cases hv
 | some b =>
  obtain⟨u,hu,ru⟩:=rv.get (i:=i) (x:=.int b) (by rw[List.getElem?_map,eb];rfl)
  rw[hu] at hv;cases hv
  obtain⟨t,rfl⟩:=ru
  exact⟨b,t,rfl,rfl⟩
theorem bq_(hc:X.calm=true):CallR X (.builtin "max") (fun xs H Q=>∃(p:Addr) (ns:List Int),xs=[.ref p]/\SqL X.K H p (ns.map V.int)/\0<ns.length/\Q (.int (Ma.maxL ns)) H):=by
 intro pins s σ H xs us Q I r h
 obtain⟨p,ns,rfl,hq,hne,q⟩:=h
 obtain⟨u,rfl,rx⟩:=vals1 r
 cases rx
 obtain⟨its,rv,pl,hz⟩:=I.list hq
 have hl:=pl.isList
 have hlt:p<s.heap.objs.size:=by obtain⟨_,e,_⟩:=hl;exact Heap.lt_size e
 have hn:its.toArray.size=ns.length:=by rw[List.size_toArray,<-rv.length,List.length_map]
 have hval:∀(i:Nat) (v:Value),its.toArray[i]?=some v->∃t,v=.int ((fun i=>(ns[i]?).getD 0) i) t:=fun i v hP=>by
  obtain⟨n,t,e,rfl⟩:=eD_ rv (i:=i) (v:=v) (by simpa using hP)
  exact⟨t,by simp[e]⟩
 refine call_max_walk (wpAny_pyIter_list hl ?_)
 refine⟨_,_,_,_,_,_,_,rfl,Walks.list (A:=X.A.in1) (I.ok.hd hc) s.heap.objs.size p (Nat.ne_of_lt hlt) its.toArray,⟨⟨_,Heap.get?_push_size _ rfl,rfl,rfl⟩,hl.push _⟩,fun b hb'=>?_,by lia,CmpOf.ints_gt (fun i=>(ns[i]?).getD 0) hval,fun v h' tk hP hk=>?_⟩
 ·show b<(s.heap.push _).objs.size
  rw[Heap.size_push]
  rcases List.mem_cons.mp hb' with rfl | hb'
  ·exact Nat.lt_succ_self _
  ·have e:b=p:=by simpa using hb'
   rw[e];exact Nat.lt_succ_of_lt hlt
 ·rw[hn] at hP
  have ab:=argBest_gt (fun i=>(ns[i]?).getD 0) (ns.length-1)
  obtain⟨n,t,e,rfl⟩:=eD_ rv (i:=argBest (fun i j=>decide ((ns[i]?).getD 0>(ns[j]?).getD 0)) (ns.length-1)) (v:=v) (by simpa using hP)
  have em:n=Ma.maxL ns:=Ma.cb_ (List.mem_of_getElem? e) fun m hm=>by
   obtain⟨j,hj⟩:=List.getElem?_of_mem hm
   have hjl:=(List.getElem?_eq_some_iff.mp hj).1
   have a2:=ab.2 j (by lia)
   simp only[hj,e,Option.getD_some] at a2
   exact a2
  subst em
  exact⟨.int _,H,(show Inv X pins σ H {s with heap:=h',toks:=tk} from seen I hk),⟨_,rfl⟩,q⟩
theorem aU_(hc:X.calm=true):CallR X (.builtin "min") (fun xs H Q=>∃(p:Addr) (ns:List Int),xs=[.ref p]/\SqL X.K H p (ns.map V.int)/\0<ns.length/\Q (.int (Ma.minL ns)) H):=by
 intro pins s σ H xs us Q I r h
 obtain⟨p,ns,rfl,hq,hne,q⟩:=h
 obtain⟨u,rfl,rx⟩:=vals1 r
 cases rx
 obtain⟨its,rv,pl,hz⟩:=I.list hq
 have hl:=pl.isList
 have hlt:p<s.heap.objs.size:=by obtain⟨_,e,_⟩:=hl;exact Heap.lt_size e
 have hn:its.toArray.size=ns.length:=by rw[List.size_toArray,<-rv.length,List.length_map]
 have hval:∀(i:Nat) (v:Value),its.toArray[i]?=some v->∃t,v=.int ((fun i=>(ns[i]?).getD 0) i) t:=fun i v hP=>by
  obtain⟨n,t,e,rfl⟩:=eD_ rv (i:=i) (v:=v) (by simpa using hP)
  exact⟨t,by simp[e]⟩
 refine call_min_walk (wpAny_pyIter_list hl ?_)
 refine⟨_,_,_,_,_,_,_,rfl,Walks.list (A:=X.A.in1) (I.ok.hd hc) s.heap.objs.size p (Nat.ne_of_lt hlt) its.toArray,⟨⟨_,Heap.get?_push_size _ rfl,rfl,rfl⟩,hl.push _⟩,fun b hb'=>?_,by lia,CmpOf.ints_lt (fun i=>(ns[i]?).getD 0) hval,fun v h' tk hP hk=>?_⟩
 ·show b<(s.heap.push _).objs.size
  rw[Heap.size_push]
  rcases List.mem_cons.mp hb' with rfl | hb'
  ·exact Nat.lt_succ_self _
  ·have e:b=p:=by simpa using hb'
   rw[e];exact Nat.lt_succ_of_lt hlt
 ·rw[hn] at hP
  have ab:=argBest_lt (fun i=>(ns[i]?).getD 0) (ns.length-1)
  obtain⟨n,t,e,rfl⟩:=eD_ rv (i:=argBest (fun i j=>decide ((ns[i]?).getD 0<(ns[j]?).getD 0)) (ns.length-1)) (v:=v) (by simpa using hP)
  have em:n=Ma.minL ns:=Ma.ca_ (List.mem_of_getElem? e) fun m hm=>by
   obtain⟨j,hj⟩:=List.getElem?_of_mem hm
   have hjl:=(List.getElem?_eq_some_iff.mp hj).1
   have a2:=ab.2 j (by lia)
   simp only[hj,e,Option.getD_some] at a2
   exact a2
  subst em
  exact⟨.int _,H,(show Inv X pins σ H {s with heap:=h',toks:=tk} from seen I hk),⟨_,rfl⟩,q⟩
end
theorem jI_{k:Key}{v:Value}(h:keyIs k v=true):RelV (kV k) v:=by
 rcases E_ h with⟨i,t,rfl,rfl⟩ | ⟨x,t,rfl,rfl⟩ <;> exact⟨_,rfl⟩
theorem KV.at{kvs:List (Key×V)}{vs:List (Key×Value)}(r:KV kvs vs):∀ {i:Nat} {p:Key×V},kvs[i]?=some p->∃u,vs[i]?=some (p.1,u)/\RelV p.2 u:=by
 unfold KV at r
 induction r with
 | nil=>intro i p e;simp at e
 | @cons a b as bs h t ih =>
  intro i p e
  cases i with
  | zero =>
   simp at e
   subst e
   exact⟨b.2,by rw[h.1];rfl,h.2⟩
  | succ i=>simpa using ih (i:=i) (p:=p) (by simpa using e)
section
variable{X:Cx}{pins:List (Addr×Obj)}{σ:St}{H:Hp}{s:Shared}{a:Addr}{o:Obj}{kvs:List (Key×V)}
theorem Inv.freeze(I:Inv X pins σ H s)(e:H a=some (.dK kvs))(ho:s.heap.get? a=some o):Inv X pins σ (upd H a (.frz o (.dK kvs))) s :=
 I.write (x:=a) (e:=a) (t':=s.toks) (h':=s.heap) (by rw[e];trivial) (.inl rfl) (fun b q _ z=>z) ⟨o,ho⟩ ⟨ho,I.hok a _ e⟩
theorem Inv.thaw(I:Inv X pins σ H s)(e:H a=some (.frz o (.dK kvs)))(hb:∀o u,X.H₀ a≠some (.frz o u)):Inv X pins σ (upd H a (.dK kvs)) s:=by
 have ne:∀b,H b=none->b≠a:=fun b n z=>by rw[z,e] at n;cases n
 refine⟨I.ok,I.os,I.bare,⟨I.base.keep,I.base.slot,fun b ob q n hx=>?_,I.base.there,fun b xs q=>?_,fun b ob u q=>?_,fun b ps q=>?_⟩,I.loc,I.cell,?_,fun x c q=>?_,fun p hp=>?_,fun b u q=>?_,I.len⟩
 ·have:=I.base.free b ob q n hx
  rw[l_ (ne b this)];exact this
 ·have q':=I.base.tups b xs q
  rw[l_ (fun z=>by rw[z,e] at q';cases q')];exact q'
 ·have q':=I.base.frzs b ob u q
  rw[l_ (fun z=>hb ob u (by rw[<-z];exact q))];exact q'
 ·obtain⟨m,q'⟩:=I.base.tbls b ps q
  exact⟨m,by rw[l_ (fun z=>by rw[z,e] at q';cases q')];exact q'⟩
 ·rw[l_ (ne _ I.free)];exact I.free
 ·rw[l_ (ne _ (I.freeC x c q))];exact I.freeC x c q
 ·obtain⟨h1,h2,h3⟩:=I.pin p hp
  exact⟨h1,by rw[l_ (ne _ h2)];exact h2,h3⟩
 ·by_cases hba:b=a
  ·subst hba
   rw[c_] at q
   cases q
   exact(I.hok b _ e).2
  ·rw[l_ hba] at q
   refine(I.hok b u q).stay (fun _ _ _ z=>z) (fun c z=>?_) fun c xs z=>?_
   ·rw[l_ (fun y=>by rw[y,e] at z;cases z)];exact z
   ·rw[l_ (fun y=>by rw[y,e] at z;cases z)];exact z
def tThaw(H₀:Hp)(u:TS):TS:=fun D σ H=>∃a o kvs,H a=some (.frz o (.dK kvs))/\(∀o u,H₀ a≠some (.frz o u))/\u D σ (upd H a (.dK kvs))
theorem eh_{rest:List Stmt}{u:TS}(h:PSs X rest u):PSs X rest (tThaw X.H₀ u):=fun pins s σ H D I q=>by
 obtain⟨a,o,kvs,e,hb,q⟩:=q
 exact h pins s σ _ D (I.thaw e hb) q
end
def Itd(a:Addr)(o:Obj)(kvs:List (Key×V)):It :=
 ⟨fun i H=>H a=some (.frz o (.dK kvs))/\i<kvs.length,fun i H x H'=>H'=H/\∃k v,kvs[i]?=some (k,v)/\x=kV k,fun i H=>H a=some (.frz o (.dK kvs))/\kvs.length<=i⟩
theorem je_{P:Program}{w:World}{K:PySem.W.Frag}{tg:Expr}{a it:Addr}{o:Obj}{kvs:List (Key×V)}{vs:List (Key×Value)}{ep:Nat}(rel:KV kvs vs)
  (da:∀h:Heap,h.get? a=some o->h.DictAt (A_ P w) a vs ep):Turn P w K tg (Itd a o kvs) [it] it (fun i h=>h.IsKeyIter it a i vs.length ep) where
 mem:=by simp
 obj:=fun i h st b hb=>by
  have e:b=it:=by simpa using hb
  subst e
  obtain⟨o,e,c,d⟩:=st
  exact⟨o,e,fun v z=>by rw[d] at z;cases z⟩
 keep:=fun i h h' st k=>st.at fun o e=>k it (by simp) o e
 item:=by
  intro X hP hw hK hc i pins s σ H E I hf st hg
  subst hP hw hK
  obtain⟨hq,hi⟩:=hg
  obtain⟨f0,f1,f2,f3,f4,f5⟩:=hf it (by simp)
  have hx:kvs[i]?=some kvs[i]:=by simp[hi]
  obtain⟨u,hu,ru⟩:=rel.at hx
  refine wpAny_pyNext_dict_item st (da _ (I.hok a _ hq).1) hu fun key h' hk st' sb=>?_
  have I1:Inv X pins σ H {s with heap:=h'}:=I.turned (t':=s.toks) (fun b o hb e=>(sb.2 b hb).trans e) f0 f1 f3 f4 f5
  obtain⟨oi,e,c,d⟩:=id st'
  exact⟨key,rfl,ma_ (s:={s with heap:=h'}) e c d (by decide) ⟨kV (kvs[i]).1,H,I1,jI_ hk,⟨rfl,(kvs[i]).1,(kvs[i]).2,hx,rfl⟩,st',fun b hb=>(hf b hb).1⟩⟩
 done:=by
  intro X hP hw hK hc i pins s σ H E I hf st hg
  subst hP hw hK
  obtain⟨hq,hi⟩:=hg
  obtain⟨f0,f1,f2,f3,f4,f5⟩:=hf it (by simp)
  have hl:=rel.length
  exact wpAny_pyNext_dict_end (I.ok.hd hc) st (da _ (I.hok a _ hq).1) (by simp;lia) fun h' eb=>⟨rfl,I.turned (t':=s.toks) (fun b o hb e=>eb b o hb e) f0 f1 f3 f4 f5⟩
 self:=fun _ _ _ _ _ st h=>wpAny_pyIter_keyiter st h
def iDict(tl:TE):TI:=fun σ H R=>tl σ H fun x H1=>∃a kvs,x=.ref a/\H1 a=some (.dK kvs)/\∀o,R (Itd a o kvs) (upd H1 a (.frz o (.dK kvs)))
theorem em_{X:Cx}{tg l:Expr}{tl:TE}(hl:PE X l tl):PI X tg l (iDict tl):=by
 intro pins s σ H R I h
 refine thn (hl pins s σ H _ I h) fun v s1 ⟨x,H1,I1,r1,q1⟩=>?_
 obtain⟨a,kvs,e,he,q⟩:=q1
 subst e
 cases r1
 obtain⟨z,hd,vs,rel,o,es,ep,ho,dd⟩:=iK_ I1.hok he
 refine wpAny_pyIter_dict hd (ep:=ep) ⟨o,es,ho,dd⟩ ?_
 have I2:=I1.freeze he ho
 refine⟨s1.heap.objs.size,[s1.heap.objs.size],_,_,_,rfl,I2.kept (t':=s1.toks) fun b o e=>Heap.get?_push_of_some _ e,je_ (ep:=ep) rel fun h e=>⟨o,es,e,dd⟩,⟨_,Heap.get?_push_size _ rfl,rfl,rfl⟩,fun b hb=>?_,q o⟩
 have e:b=s1.heap.objs.size:=by simpa using hb
 subst e
 exact I2.fpOk (Nat.le_refl _) (I2.hok.fresh (Nat.le_refl _))
theorem eF_{a:Addr}{o:Obj}{kvs:List (Key×V)}{g:TG}{tb:TS}{D:Ends}{σ:St}{H:Hp}(Pv:Nat->St->Hp->Prop)(h0:Pv 0 σ H)(hl:∀i σ H,i<=kvs.length->Pv i σ H->H a=some (.frz o (.dK kvs)))
  (hs:∀i k v σ H,kvs[i]?=some (k,v)->Pv i σ H->g (kV k) σ H fun σ2 H2=>tb {D with nx:=Pv (i+1),ct:=Pv (i+1),bk:=D.nx} σ2 H2) (hd:∀ σ H,Pv kvs.length σ H->D.nx σ H) :
  ∃W:Nat->Nat->St->Hp->Prop,(∃m,W 0 m σ H)/\∀i m σ H,W i m σ H->
   ((Itd a o kvs).stop i H/\D.nx σ H)\/((Itd a o kvs).go i H/\∃N:St->Hp->Prop,(∀ σ' H',N σ' H'->∃m',m'<m/\W (i+1) m' σ' H')/\∀x H',(Itd a o kvs).yld i H x H'->g x σ H' fun σ2 H2=>tb {D with nx:=N,ct:=N,bk:=D.nx} σ2 H2):=by
 refine⟨fun i m σ H=>m=kvs.length-i/\i<=kvs.length/\Pv i σ H,⟨kvs.length,by simp,Nat.zero_le _,h0⟩,?_⟩
 rintro i m σ H ⟨rfl,hi,p⟩
 have q:=hl i σ H hi p
 by_cases hlt:i<kvs.length
 ·refine .inr ⟨⟨q,hlt⟩,Pv (i+1),fun σ' H' p'=>⟨kvs.length-(i+1),by lia,rfl,hlt,p'⟩,fun x H' y=>?_⟩
  obtain⟨e,k,v,hk,rfl⟩:=y
  subst e
  exact hs i k v σ _ hk p
 ·have e:i=kvs.length:=by lia
  subst e
  exact .inl ⟨⟨q,Nat.le_refl _⟩,hd σ H p⟩
theorem kW_{a:Addr}{o:Obj}{kvs:List (Key×V)}{G:V->Hp->(List V->Hp->Prop)->List V->Prop}{Fin:List V->Hp->Prop}{H:Hp}(Pv:Nat->List V->Hp->Prop)(h0:Pv 0 [] H)(hl:∀i ys H,i<=kvs.length->Pv i ys H->H a=some (.frz o (.dK kvs)))
  (hs:∀i k v ys H,kvs[i]?=some (k,v)->Pv i ys H->ys.length<sizeLine/\G (kV k) H (Pv (i+1)) ys) (hd:∀ys H,Pv kvs.length ys H->Fin ys H) :
  ∃W:Nat->Nat->List V->Hp->Prop,(∃m,W 0 m [] H)/\∀i m ys H,W i m ys H->
   ((Itd a o kvs).stop i H/\Fin ys H)\/((Itd a o kvs).go i H/\ys.length<sizeLine/\∃Nx:List V->Hp->Prop,(∀ys' H',Nx ys' H'->∃m',m'<m/\W (i+1) m' ys' H')/\∀x H',(Itd a o kvs).yld i H x H'->G x H' Nx ys):=by
 refine⟨fun i m ys H=>m=kvs.length-i/\i<=kvs.length/\Pv i ys H,⟨kvs.length,by simp,Nat.zero_le _,h0⟩,?_⟩
 rintro i m ys H ⟨rfl,hi,p⟩
 have q:=hl i ys H hi p
 by_cases hlt:i<kvs.length
 ·have a1:=hs i kvs[i].1 kvs[i].2 ys H (by simp[hlt]) p
  refine .inr ⟨⟨q,hlt⟩,a1.1,Pv (i+1),fun ys' H' p'=>⟨kvs.length-(i+1),by lia,rfl,hlt,p'⟩,fun x H' y=>?_⟩
  obtain⟨e,k,v,hk,rfl⟩:=y
  subst e
  exact(hs i k v ys _ hk p).2
 ·have e:i=kvs.length:=by lia
  subst e
  exact .inl ⟨⟨q,Nat.le_refl _⟩,hd ys H p⟩
end L2
namespace Srt
open PySem PyProof.Rows
structure Ok(a₀:Array Keyed)(p:Array (Nat×Nat×Nat))(st:SortSt):Prop where
 perm:(arrOf st).Perm a₀
 kind:kindOf st=oneType'
 failed:failedOf st=none
 pend:pendingOf st=p
abbrev IntK(x:Keyed):Prop:=∃n t,x.1=.int n t
section
variable{prog:Program}{w:World}{A:Around}{E:Value->Shared->Prop}{s:Shared}{a₀:Array Keyed}{p:Array (Nat×Nat×Nat)}{st:SortSt}
theorem Ok.size(h:Ok a₀ p st):(arrOf st).size=a₀.size:=h.perm.size_eq
theorem Ok.set(h:Ok a₀ p st){xs:Array Keyed}(hp:xs.Perm (arrOf st)):Ok a₀ p (setArr st xs):=⟨hp.trans h.perm,h.kind,h.failed,h.pend⟩
theorem Ok.keys(h:Ok a₀ p st)(h0:IntKeys a₀):IntKeys (arrOf st):=fun x hx=>h0 x ((Array.perm_iff_toList_perm.mp h.perm).mem_iff.mp hx)
theorem ac_{xs:Array Keyed}(h:IntKeys xs){i:Nat}(hi:i<xs.size):IntK xs[i]:=h _ (by simp)
theorem eN_{x y:Keyed}{Q:Option Bool->SortSt->Prop}(hk:kindOf st=oneType')(hx:IntK x)(hy:IntK y)(h:∀r,Q (some r) st):wpS (model prog w) A E s (lt' x y) Q st:=by
 obtain⟨a,t,hx⟩:=hx
 obtain⟨b,u,hy⟩:=hy
 rw[lt'_eq]
 refine wpS_bind (wpS_get ?_)
 rw[hk,keyLt'_oneType,hx,hy]
 refine wpS_bind (wpS_lift (wpAny_attempt (oneLt_int ⟨rfl,?_⟩)))
 exact wpS_pure (h _)
theorem u_{arr:Array Keyed}{i:Nat}{Q:Keyed->SortSt->Prop}(hi:i<arr.size)(h:Q arr[i] st):wpS (model prog w) A E s (elem' arr i) Q st:=by
 rw[elem'_eq,getElem?_pos arr i hi]
 exact wpS_pure h
theorem an_{i j:Nat}{Q:Option Bool->SortSt->Prop}(ok:Ok a₀ p st)(h0:IntKeys a₀)(hi:i<a₀.size)(hj:j<a₀.size)(h:∀r,Q (some r) st):wpS (model prog w) A E s (ltAt' i j) Q st:=by
 rw[ltAt'_eq]
 refine wpS_bind (wpS_get ?_)
 have sz:=ok.size
 have hk:=ok.keys h0
 exact wpS_bind (u_ (by lia) (wpS_bind (u_ (by lia) (eN_ ok.kind (ac_ hk _) (ac_ hk _) h))))
theorem aV_{i j:Nat}{Q:Unit->SortSt->Prop}(ok:Ok a₀ p st)(h:∀st',Ok a₀ p st'->Q () st'):wpS (model prog w) A E s (reverseSlice' i j) Q st:=by
 rw[reverseSlice'_eq]
 exact wpS_modify (h _ (ok.set (mirror_perm _ _ _ _)))
theorem lk_{i j:Nat}{Q:Unit->SortSt->Prop}(ok:Ok a₀ p st)(h:∀st',Ok a₀ p st'->Q () st'):wpS (model prog w) A E s (moveDown' i j) Q st:=by
 rw[moveDown'_eq]
 exact wpS_modify (h _ (ok.set (bubble_perm _ _ _)))
theorem iR_{lo nrem:Nat}{Q:Option Nat->SortSt->Prop}(h0:IntKeys a₀)(hn:lo+nrem<=a₀.size)(h1:1<=nrem)(ok:Ok a₀ p st)
  (h:∀m st',Ok a₀ p st'->1<=m->m<=nrem->Q (some m) st'):wpS (model prog w) A E s (countRun' lo nrem) Q st:=by
 rw[countRun'_eq]
 refine wpS_bind (wpS_mono (wpS_forRange (I:=fun x c st'=>c=(none,x)/\Ok a₀ p st') (Q:=fun c st'=>∃n,c=(none,n)/\1<=n/\n<=nrem/\Ok a₀ p st') ?step ?fin ⟨rfl,ok⟩) ?post)
 case step =>
  rintro x c st' hx1 hx2 ⟨rfl,ok'⟩
  refine wpS_bind (an_ ok' h0 (by lia) (by lia) fun r=>?_)
  cases r with
  | true=>exact wpS_pure ⟨x,rfl,hx1,by lia,ok'⟩
  | false=>exact wpS_pure ⟨rfl,ok'⟩
 case fin =>
  rintro c st' ⟨rfl,ok'⟩
  exact⟨max 1 nrem,rfl,by lia,by lia,ok'⟩
 case post =>
  rintro c st' ⟨n,rfl,hn1,hn2,ok'⟩
  dsimp only
  by_cases hnn:n=nrem
  ·rw[if_pos (by simpa using hnn)]
   exact wpS_pure (h n _ ok' hn1 hn2)
  ·rw[if_neg (by simpa using hnn)]
   by_cases hgt:n>1
   ·rw[if_pos hgt]
    refine wpS_bind (an_ ok' h0 (by lia) (by lia) fun r=>?_)
    cases r with
    | true=>exact wpS_pure (h n _ ok' hn1 hn2)
    | false =>
     dsimp only
     rw[if_neg Bool.false_ne_true]
     refine wpS_bind (aV_ ok' fun st4 ok4=>?_)
     refine wpS_bind (wpS_lift (wpAny_rule ⟨rfl,?_⟩))
     refine wpS_bind (wpS_mono (wpS_forRange (I:=fun x c st'=>(∃q,c=(none,x,q))/\Ok a₀ p st') (Q:=fun c st'=>∃m q,c=(none,m,q)/\1<=m/\m<=nrem/\Ok a₀ p st') ?_ ?_ ⟨⟨0,rfl⟩,ok4⟩) ?_)
     ·rintro x c st' hx1 hx2 ⟨⟨q,rfl⟩,ok'⟩
      dsimp only
      refine wpS_bind (an_ ok' h0 (by lia) (by lia) fun r=>?_)
      cases r with
      | true =>
       dsimp only
       by_cases hq:q>0
       ·rw[if_pos rfl,if_pos hq]
        exact wpS_bind (aV_ ok' fun st2 ok2=>wpS_pure ⟨⟨0,rfl⟩,ok2⟩)
       ·rw[if_pos rfl,if_neg hq]
        exact wpS_pure ⟨⟨0,rfl⟩,ok'⟩
      | false =>
       dsimp only
       rw[if_neg Bool.false_ne_true]
       refine wpS_bind (an_ ok' h0 (by lia) (by lia) fun r=>?_)
       cases r with
       | true=>exact wpS_pure ⟨x,q,rfl,by lia,by lia,ok'⟩
       | false=>exact wpS_pure ⟨⟨q+1,rfl⟩,ok'⟩
     ·rintro c st' ⟨⟨q,rfl⟩,ok'⟩
      exact⟨_,q,rfl,by lia,by lia,ok'⟩
     ·rintro c st' ⟨m,q,rfl,hm1,hm2,ok2⟩
      dsimp only
      by_cases hq:q>0
      ·rw[if_pos hq]
       refine wpS_bind (aV_ ok2 fun st3 ok3=>?_)
       refine wpS_bind (aV_ ok3 fun stY okY=>?_)
       refine wpS_bind (wpS_mono (wpS_forRange (I:=fun x c st'=>c=(none,x)/\Ok a₀ p st') (Q:=fun c st'=>∃n,c=(none,n)/\1<=n/\n<=nrem/\Ok a₀ p st') ?_ ?_ ⟨rfl,okY⟩) ?_)
       ·rintro x c st' hx1 hx2 ⟨rfl,ok'⟩
        refine wpS_bind (an_ ok' h0 (by lia) (by lia) fun r=>?_)
        cases r with
        | true=>exact wpS_pure ⟨x,rfl,by lia,by lia,ok'⟩
        | false=>exact wpS_pure ⟨rfl,ok'⟩
       ·rintro c st' ⟨rfl,ok'⟩
        exact⟨_,rfl,by lia,by lia,ok'⟩
       ·rintro c st' ⟨n,rfl,hn1,hn2,ok'⟩
        exact wpS_pure (h n _ ok' hn1 hn2)
      ·rw[if_neg hq]
       refine wpS_bind (aV_ ok2 fun stY okY=>?_)
       refine wpS_bind (wpS_mono (wpS_forRange (I:=fun x c st'=>c=(none,x)/\Ok a₀ p st') (Q:=fun c st'=>∃n,c=(none,n)/\1<=n/\n<=nrem/\Ok a₀ p st') ?_ ?_ ⟨rfl,okY⟩) ?_)
       ·rintro x c st' hx1 hx2 ⟨rfl,ok'⟩
        refine wpS_bind (an_ ok' h0 (by lia) (by lia) fun r=>?_)
        cases r with
        | true=>exact wpS_pure ⟨x,rfl,by lia,by lia,ok'⟩
        | false=>exact wpS_pure ⟨rfl,ok'⟩
       ·rintro c st' ⟨rfl,ok'⟩
        exact⟨_,rfl,by lia,by lia,ok'⟩
       ·rintro c st' ⟨n,rfl,hn1,hn2,ok'⟩
        exact wpS_pure (h n _ ok' hn1 hn2)
   ·rw[if_neg hgt]
    refine wpS_bind (wpS_lift (wpAny_rule ⟨rfl,?_⟩))
    refine wpS_bind (wpS_mono (wpS_forRange (I:=fun x c st'=>(∃q,c=(none,x,q))/\Ok a₀ p st') (Q:=fun c st'=>∃m q,c=(none,m,q)/\1<=m/\m<=nrem/\Ok a₀ p st') ?_ ?_ ⟨⟨0,rfl⟩,ok'⟩) ?_)
    ·rintro x c st' hx1 hx2 ⟨⟨q,rfl⟩,ok'⟩
     dsimp only
     refine wpS_bind (an_ ok' h0 (by lia) (by lia) fun r=>?_)
     cases r with
     | true =>
      dsimp only
      by_cases hq:q>0
      ·rw[if_pos rfl,if_pos hq]
       exact wpS_bind (aV_ ok' fun st2 ok2=>wpS_pure ⟨⟨0,rfl⟩,ok2⟩)
      ·rw[if_pos rfl,if_neg hq]
       exact wpS_pure ⟨⟨0,rfl⟩,ok'⟩
     | false =>
      dsimp only
      rw[if_neg Bool.false_ne_true]
      refine wpS_bind (an_ ok' h0 (by lia) (by lia) fun r=>?_)
      cases r with
      | true=>exact wpS_pure ⟨x,q,rfl,by lia,by lia,ok'⟩
      | false=>exact wpS_pure ⟨⟨q+1,rfl⟩,ok'⟩
    ·rintro c st' ⟨⟨q,rfl⟩,ok'⟩
     exact⟨_,q,rfl,by lia,by lia,ok'⟩
    ·rintro c st' ⟨m,q,rfl,hm1,hm2,ok2⟩
     dsimp only
     by_cases hq:q>0
     ·rw[if_pos hq]
      refine wpS_bind (aV_ ok2 fun st3 ok3=>?_)
      refine wpS_bind (aV_ ok3 fun stY okY=>?_)
      refine wpS_bind (wpS_mono (wpS_forRange (I:=fun x c st'=>c=(none,x)/\Ok a₀ p st') (Q:=fun c st'=>∃n,c=(none,n)/\1<=n/\n<=nrem/\Ok a₀ p st') ?_ ?_ ⟨rfl,okY⟩) ?_)
      ·rintro x c st' hx1 hx2 ⟨rfl,ok'⟩
       refine wpS_bind (an_ ok' h0 (by lia) (by lia) fun r=>?_)
       cases r with
       | true=>exact wpS_pure ⟨x,rfl,by lia,by lia,ok'⟩
       | false=>exact wpS_pure ⟨rfl,ok'⟩
      ·rintro c st' ⟨rfl,ok'⟩
       exact⟨_,rfl,by lia,by lia,ok'⟩
      ·rintro c st' ⟨n,rfl,hn1,hn2,ok'⟩
       exact wpS_pure (h n _ ok' hn1 hn2)
     ·rw[if_neg hq]
      refine wpS_bind (aV_ ok2 fun stY okY=>?_)
      refine wpS_bind (wpS_mono (wpS_forRange (I:=fun x c st'=>c=(none,x)/\Ok a₀ p st') (Q:=fun c st'=>∃n,c=(none,n)/\1<=n/\n<=nrem/\Ok a₀ p st') ?_ ?_ ⟨rfl,okY⟩) ?_)
      ·rintro x c st' hx1 hx2 ⟨rfl,ok'⟩
       refine wpS_bind (an_ ok' h0 (by lia) (by lia) fun r=>?_)
       cases r with
       | true=>exact wpS_pure ⟨x,rfl,by lia,by lia,ok'⟩
       | false=>exact wpS_pure ⟨rfl,ok'⟩
      ·rintro c st' ⟨rfl,ok'⟩
       exact⟨_,rfl,by lia,by lia,ok'⟩
      ·rintro c st' ⟨n,rfl,hn1,hn2,ok'⟩
       exact wpS_pure (h n _ ok' hn1 hn2)
theorem nm_{lo n ok:Nat}{Q:Bool->SortSt->Prop}(h0:IntKeys a₀)(hn:lo+n<=a₀.size)(hB:Ok a₀ p st)(h:∀st',Ok a₀ p st'->Q true st'):wpS (model prog w) A E s (binarySort' lo n ok) Q st:=by
 rw[binarySort'_eq]
 refine wpS_bind (wpS_mono (wpS_forRange (I:=fun k c st'=>c=(none,())/\Ok a₀ p st') (Q:=fun c st'=>c=(none,())/\Ok a₀ p st') ?step (fun _ _ z=>z) ⟨rfl,hB⟩) ?post)
 case post =>
  rintro c st' ⟨rfl,ok'⟩
  exact wpS_pure (h _ ok')
 case step =>
  rintro k c st' hk1 hk2 ⟨rfl,ok'⟩
  dsimp only
  refine wpS_bind (wpS_mono (wpS_forRange (I:=fun _ c st2=>(∃l r,c=(none,l,r)/\r<=k)/\Ok a₀ p st2) (Q:=fun c st2=>(∃l r,c=(none,l,r)/\r<=k)/\Ok a₀ p st2) ?_ (fun _ _ z=>z) ⟨⟨0,k,rfl,Nat.le_refl _⟩,ok'⟩) ?_)
  ·rintro x c st2 _ _ ⟨⟨l,r,rfl,hr⟩,ok2⟩
   dsimp only
   by_cases hlr:l>=r
   ·rw[if_pos hlr]
    exact wpS_pure ⟨⟨l,r,rfl,hr⟩,ok2⟩
   ·rw[if_neg hlr]
    refine wpS_bind (an_ ok2 h0 (by lia) (by lia) fun less=>?_)
    cases less with
    | true=>exact wpS_pure ⟨⟨l,(l+r) / 2,rfl,by lia⟩,ok2⟩
    | false=>exact wpS_pure ⟨⟨(l+r) / 2+1,r,rfl,hr⟩,ok2⟩
  ·rintro c st2 ⟨⟨l,r,rfl,hr⟩,ok2⟩
   dsimp only
   exact wpS_bind (lk_ ok2 fun st3 ok3=>wpS_pure ⟨rfl,ok3⟩)
end
end Srt
namespace Srt
open PySem PyProof.Rows
def kB_:Bool->Keyed->Array Keyed->Nat->Nat->Nat->StateT SortSt Sem (Option Nat):=sortPriv% PySem.Builtin.gallop
section
variable{prog:Program}{w:World}{A:Around}{E:Value->Shared->Prop}{s:Shared}{st:SortSt}
theorem aH_{left:Bool}{key:Keyed}{arr:Array Keyed}{i:Nat}{Q:Option Bool->SortSt->Prop}(hk:kindOf st=oneType')(h0:IntKeys arr)(hkey:IntK key)(hi:i<arr.size)(h:∀r,Q (some r) st) :
  wpS (model prog w) A E s (elem' arr i>>=fun x=>if left=true then lt' x key else lt' key x>>=fun r=>pure (Option.map (fun x=>!x) r)) Q st:=by
 refine wpS_bind (u_ hi ?_)
 cases left with
 | true=>exact eN_ hk (ac_ h0 hi) hkey h
 | false=>exact wpS_bind (eN_ hk hkey (ac_ h0 hi) fun r=>wpS_pure (h _))
theorem ae_{left:Bool}{key:Keyed}{arr:Array Keyed}{base n hint:Nat}{Q:Option Nat->SortSt->Prop}(hk:kindOf st=oneType')(h0:IntKeys arr)(hkey:IntK key)(hb:base+n<=arr.size)(hh:hint<n)
  (h:∀k,k<=n->Q (some k) st):wpS (model prog w) A E s (kB_ left key arr base n hint) Q st:=by
 unfold kB_
 show wpS _ _ _ _ (_>>=_) _ _
 dsimp only
 refine wpS_bind (aH_ hk h0 hkey (by lia) fun right=>?_)
 cases right with
 | true =>
  dsimp only
  rw[if_pos rfl]
  refine wpS_bind (wpS_mono (wpS_forRange (I:=fun _ c st2=>(∃l r,c=(none,l,r))/\st=st2) (Q:=fun c st2=>(∃l r,c=(none,l,r))/\st=st2) ?_ (fun _ _ z=>z) ⟨⟨_,_,rfl⟩,rfl⟩) ?_)
  ·rintro x c st2 _ _ ⟨⟨l,r,rfl⟩,rfl⟩
   dsimp only
   by_cases hlr:r>=n-hint
   ·rw[if_pos hlr]
    exact wpS_pure ⟨⟨l,r,rfl⟩,rfl⟩
   ·rw[if_neg hlr]
    refine wpS_bind (aH_ hk h0 hkey (by lia) fun more=>?_)
    cases more with
    | true=>exact wpS_pure ⟨⟨_,_,rfl⟩,rfl⟩
    | false=>exact wpS_pure ⟨⟨_,_,rfl⟩,rfl⟩
  ·rintro c st2 ⟨⟨l,r,rfl⟩,rfl⟩
   dsimp only
   refine wpS_bind (wpS_mono (wpS_forRange (I:=fun _ c st2=>(∃l r,c=(none,l,r)/\r<=n)/\st=st2) (Q:=fun c st2=>(∃l r,c=(none,l,r)/\r<=n)/\st=st2) ?_ (fun _ _ z=>z) ⟨⟨_,_,rfl,by lia⟩,rfl⟩) ?_)
   ·rintro x c st2 _ _ ⟨⟨l,r,rfl,hr⟩,rfl⟩
    dsimp only
    by_cases hlr:l>=r
    ·rw[if_pos hlr]
     exact wpS_pure ⟨⟨l,r,rfl,hr⟩,rfl⟩
    ·rw[if_neg hlr]
     refine wpS_bind (aH_ hk h0 hkey (by lia) fun more=>?_)
     cases more with
     | true=>exact wpS_pure ⟨⟨l+(r-l) / 2+1,r,rfl,hr⟩,rfl⟩
     | false=>exact wpS_pure ⟨⟨l,l+(r-l) / 2,rfl,by lia⟩,rfl⟩
   ·rintro c st2 ⟨⟨l,r,rfl,hr⟩,rfl⟩
    exact wpS_pure (h _ hr)
 | false =>
  dsimp only
  rw[if_neg Bool.false_ne_true]
  refine wpS_bind (wpS_mono (wpS_forRange (I:=fun _ c st2=>(∃l r,c=(none,l,r))/\st=st2) (Q:=fun c st2=>(∃l r,c=(none,l,r))/\st=st2) ?_ (fun _ _ z=>z) ⟨⟨_,_,rfl⟩,rfl⟩) ?_)
  ·rintro x c st2 _ _ ⟨⟨l,r,rfl⟩,rfl⟩
   dsimp only
   by_cases hlr:r>=hint+1
   ·rw[if_pos hlr]
    exact wpS_pure ⟨⟨l,r,rfl⟩,rfl⟩
   ·rw[if_neg hlr]
    refine wpS_bind (aH_ hk h0 hkey (by lia) fun more=>?_)
    cases more with
    | true=>exact wpS_pure ⟨⟨_,_,rfl⟩,rfl⟩
    | false=>exact wpS_pure ⟨⟨_,_,rfl⟩,rfl⟩
  ·rintro c st2 ⟨⟨l,r,rfl⟩,rfl⟩
   dsimp only
   refine wpS_bind (wpS_mono (wpS_forRange (I:=fun _ c st2=>(∃l r,c=(none,l,r)/\r<=n)/\st=st2) (Q:=fun c st2=>(∃l r,c=(none,l,r)/\r<=n)/\st=st2) ?_ (fun _ _ z=>z) ⟨⟨_,_,rfl,by lia⟩,rfl⟩) ?_)
   ·rintro x c st2 _ _ ⟨⟨l,r,rfl,hr⟩,rfl⟩
    dsimp only
    by_cases hlr:l>=r
    ·rw[if_pos hlr]
     exact wpS_pure ⟨⟨l,r,rfl,hr⟩,rfl⟩
    ·rw[if_neg hlr]
     refine wpS_bind (aH_ hk h0 hkey (by lia) fun more=>?_)
     cases more with
     | true=>exact wpS_pure ⟨⟨l+(r-l) / 2+1,r,rfl,hr⟩,rfl⟩
     | false=>exact wpS_pure ⟨⟨l,l+(r-l) / 2,rfl,by lia⟩,rfl⟩
   ·rintro c st2 ⟨⟨l,r,rfl,hr⟩,rfl⟩
    exact wpS_pure (h _ hr)
end
end Srt
namespace Srt
open PySem PyProof.Rows
theorem addA{α:Type}{o A B X:List α}(h:o.Perm (A++B)):(o++X).Perm ((A++X)++B):=by
 refine(h.append_right X).trans ?_
 rw[List.append_assoc,List.append_assoc]
 exact List.perm_append_comm.append_left A
theorem addB{α:Type}{o A B X:List α}(h:o.Perm (A++B)):(o++X).Perm (A++(B++X)):=by
 rw[<-List.append_assoc]
 exact h.append_right X
abbrev Outs(a b:Array Keyed)(o:Array Keyed)(i j:Nat):Prop:=o.toList.Perm (a.toList.take i++b.toList.take j)
section
variable{a b o:Array Keyed}{i j k:Nat}
theorem bb_(a:Array Keyed)(i k:Nat):(a.extract i (i+k)).toList=(a.toList.drop i).take k:=by
 rw[Array.toList_extract,List.extract_eq_take_drop,Nat.add_sub_cancel_left]
theorem eI_(a:Array Keyed)(i:Nat):(a.extract i a.size).toList=a.toList.drop i:=by
 rw[Array.toList_extract,List.extract_eq_take_drop]
 exact List.take_of_length_le (by simp)
theorem Outs.pushA(h:Outs a b o i j)(hi:i<a.size):Outs a b (o.push a[i]) (i+1) j:=by
 unfold Outs at h⊢
 rw[Array.toList_push,List.take_add_one,show a.toList[i]?=some a[i] by simp[hi]]
 exact addA h
theorem Outs.pushB(h:Outs a b o i j)(hj:j<b.size):Outs a b (o.push b[j]) i (j+1):=by
 unfold Outs at h⊢
 rw[Array.toList_push,List.take_add_one,show b.toList[j]?=some b[j] by simp[hj]]
 exact addB h
theorem Outs.extA(h:Outs a b o i j)(k:Nat):Outs a b (o++a.extract i (i+k)) (i+k) j:=by
 unfold Outs at h⊢
 rw[Array.toList_append,bb_,List.take_add]
 exact addA h
theorem Outs.extB(h:Outs a b o i j)(k:Nat):Outs a b (o++b.extract j (j+k)) i (j+k):=by
 unfold Outs at h⊢
 rw[Array.toList_append,bb_,List.take_add]
 exact addB h
theorem Outs.done(h:Outs a b o i j):(o++a.extract i a.size++b.extract j b.size).toList.Perm (a.toList++b.toList):=by
 unfold Outs at h
 rw[Array.toList_append,Array.toList_append,eI_,eI_]
 have:=addB (X:=b.toList.drop j) (addA (X:=a.toList.drop i) h)
 rwa [List.take_append_drop,List.take_append_drop] at this
theorem Outs.last(h:Outs a b o i j):(o++b.extract j b.size++a.extract i a.size).toList.Perm (a.toList++b.toList):=by
 unfold Outs at h
 rw[Array.toList_append,Array.toList_append,eI_,eI_]
 have:=addA (X:=a.toList.drop i) (addB (X:=b.toList.drop j) h)
 rwa [List.take_append_drop,List.take_append_drop] at this
end
end Srt
namespace Srt
open PySem PyProof.Rows
def jt_:Nat->StateT SortSt Sem Unit:=sortPriv% PySem.Builtin.setMinGallop
def hO_:Array Keyed->Array Keyed->StateT SortSt Sem (Array Keyed):=sortPriv% PySem.Builtin.mergeLo
abbrev Still(a₀:Array Keyed)(p:Array (Nat×Nat×Nat))(x:Array Keyed)(st:SortSt):Prop:=Ok a₀ p st/\arrOf st=x
section
variable{prog:Program}{w:World}{A:Around}{E:Value->Shared->Prop}{s:Shared}{st:SortSt}{a₀ x₀:Array Keyed}{p:Array (Nat×Nat×Nat)}
theorem br_{g:Nat}{Q:Unit->SortSt->Prop}(ok:Still a₀ p x₀ st)(h:∀st',Still a₀ p x₀ st'->Q () st'):wpS (model prog w) A E s (jt_ g) Q st:=by
 unfold jt_
 exact wpS_modify (h _ ⟨⟨ok.1.perm,ok.1.kind,ok.1.failed,ok.1.pend⟩,ok.2⟩)
abbrev LoOn(a b:Array Keyed)(m:Nat)(o:Array Keyed)(i j:Nat):Prop:=Outs a b o i j/\i+1<a.size/\j<b.size/\m<=i+j
theorem nbeq{a b:Nat}(h:¬ a=b):¬ (a==b)=true:=fun z=>h (beq_iff_eq.mp z)
theorem K_{α:Type}{x y:Nat}{a b:StateT SortSt Sem α}{Q:α->SortSt->Prop}(h1:x=y->wpS (model prog w) A E s a Q st)(h2:¬ x=y->wpS (model prog w) A E s b Q st):wpS (model prog w) A E s (if (x==y)=true then a else b) Q st:=by
 by_cases h:x=y
 ·rw[if_pos (beq_iff_eq.mpr h)];exact h1 h
 ·rw[if_neg (nbeq h)];exact h2 h
theorem bF_{α:Type}{c:Prop}[Decidable c]{a b:StateT SortSt Sem α}{Q:α->SortSt->Prop}(h1:c->wpS (model prog w) A E s a Q st)(h2:¬ c->wpS (model prog w) A E s b Q st):wpS (model prog w) A E s (if c then a else b) Q st:=by
 by_cases h:c
 ·rw[if_pos h];exact h1 h
 ·rw[if_neg h];exact h2 h
theorem via1{T:Nat->Prop}{G:Prop}(key:∀g',T g')(main:(∀g',T g')->G):G:=main key
theorem via3{T:Array Keyed->Nat->Nat->Prop}{G:Prop}(P:Array Keyed->Nat->Prop)(key:∀o i k,P o i->T o i k)(main:(∀o i k,P o i->T o i k)->G):G:=main key
theorem fZ_{a b:Array Keyed}{Q:Array Keyed->SortSt->Prop}(ok:Still a₀ p x₀ st)(ha:IntKeys a)(hb:IntKeys b)(ha1:1<=a.size)(hb1:1<=b.size)
  (h:∀o st',Still a₀ p x₀ st'->o.toList.Perm (a.toList++b.toList)->Q o st'):wpS (model prog w) A E s (hO_ a b) Q st:=by
 unfold hO_
 show wpS _ _ _ _ (_>>=_) _ _
 refine wpS_bind (wpS_lift (wpAny_rule ⟨rfl,?_⟩))
 refine wpS_bind (u_ (by lia) ?_)
 have o1:Outs a b #[b[0]] 0 1:=by
  have:Outs a b #[] 0 0:=by simp[Outs]
  exact this.pushB (by lia)
 refine K_ (fun h1=>wpS_pure (h _ _ ok o1.done)) (fun h1=>?_)
 refine K_ (fun h2=>wpS_pure (h _ _ ok o1.last)) (fun h2=>?_)
 refine wpS_bind (wpS_get ?_)
 refine wpS_bind (wpS_mono (wpS_forRange (I:=fun m c st'=>∃o i j g,c=(none,o,i,j,g)/\LoOn a b m o i j/\Still a₀ p x₀ st')
  (Q:=fun c st'=>∃r rest,c=(some r,rest)/\r.toList.Perm (a.toList++b.toList)/\Still a₀ p x₀ st') ?step ?fin ⟨_,_,_,_,rfl,⟨o1,by lia,by lia,by lia⟩,ok⟩) ?post)
 case fin =>
  rintro c st' ⟨o,i,j,g,rfl,⟨_,h3,h4,h5⟩,_⟩
  lia
 case post =>
  rintro c st' ⟨r,rest,rfl,hp,ok'⟩
  exact wpS_pure (h _ _ ok' hp)
 case step =>
  rintro m c st' _ hm ⟨o,i,j,g,rfl,on,ok'⟩
  refine wpS_bind (wpS_mono (wpS_forRange (I:=fun y c st2=>∃o i j ac bc,c=(none,o,i,j,ac,bc)/\LoOn a b (m+y) o i j/\Still a₀ p x₀ st2)
   (Q:=fun c st2=>(∃o i j ac bc,c=(none,o,i,j,ac,bc)/\LoOn a b (m+1) o i j/\Still a₀ p x₀ st2)\/∃r rest,c=(some r,rest)/\r.toList.Perm (a.toList++b.toList)/\Still a₀ p x₀ st2) ?step1 ?fin1 ⟨_,_,_,_,_,rfl,on,ok'⟩) ?post1)
  case fin1 =>
   rintro c st2 ⟨o,i,j,ac,bc,rfl,⟨q1,q2,q3,q4⟩,ok2⟩
   exact .inl ⟨_,_,_,_,_,rfl,⟨q1,q2,q3,by lia⟩,ok2⟩
  case step1 =>
   rintro y c st2 _ hy ⟨o,i,j,ac,bc,rfl,⟨q1,q2,q3,q4⟩,ok2⟩
   dsimp only
   refine wpS_bind (u_ (by lia) (wpS_bind (u_ (by lia) (wpS_bind (eN_ ok2.1.kind (ac_ hb _) (ac_ ha _) fun r=>?_)))))
   cases r with
   | true =>
    dsimp only
    rw[if_pos rfl]
    refine wpS_bind (u_ (by lia) ?_)
    refine K_ (fun hz=>wpS_pure (.inr ⟨_,_,rfl,(q1.pushB (by lia)).done,ok2⟩)) (fun hz=>?_)
    split
    ·exact wpS_pure (.inl ⟨_,_,_,_,_,rfl,⟨q1.pushB (by lia),by lia,by lia,by lia⟩,ok2⟩)
    ·exact wpS_pure ⟨_,_,_,_,_,rfl,⟨q1.pushB (by lia),by lia,by lia,by lia⟩,ok2⟩
   | false =>
    dsimp only
    rw[if_neg Bool.false_ne_true]
    refine wpS_bind (u_ (by lia) ?_)
    refine K_ (fun hz=>wpS_pure (.inr ⟨_,_,rfl,(q1.pushA (by lia)).last,ok2⟩)) (fun hz=>?_)
    split
    ·exact wpS_pure (.inl ⟨_,_,_,_,_,rfl,⟨q1.pushA (by lia),by lia,by lia,by lia⟩,ok2⟩)
    ·exact wpS_pure ⟨_,_,_,_,_,rfl,⟨q1.pushA (by lia),by lia,by lia,by lia⟩,ok2⟩
  case post1 =>
   rintro c st2 (⟨o,i,j,ac,bc,rfl,on2,ok2⟩ | ⟨r,rest,rfl,hp,ok2⟩)
   ·dsimp only
    refine wpS_bind (wpS_lift (wpAny_rule ⟨rfl,?_⟩))
    refine wpS_bind (wpS_mono (wpS_forRange (I:=fun _ c st3=>∃o i j g ac bc,c=(none,o,i,j,g,ac,bc)/\LoOn a b (m+1) o i j/\Still a₀ p x₀ st3)
     (Q:=fun c st3=>(∃o i j g ac bc,c=(none,o,i,j,g,ac,bc)/\LoOn a b (m+1) o i j/\Still a₀ p x₀ st3)\/∃r rest,c=(some r,rest)/\r.toList.Perm (a.toList++b.toList)/\Still a₀ p x₀ st3) ?step2 (fun _ _ z=>.inl z) ⟨_,_,_,_,_,_,rfl,on2,ok2⟩) ?post2)
    case post2 =>
     rintro c st3 (⟨o,i,j,g,ac,bc,rfl,on3,ok3⟩ | ⟨r,⟨o,i,j,g,ac,bc⟩,rfl,hp,ok3⟩)
     ·dsimp only
      exact wpS_bind (br_ ok3 fun st4 ok4=>wpS_pure ⟨_,_,_,_,rfl,on3,ok4⟩)
     ·exact wpS_pure ⟨_,_,rfl,hp,ok3⟩
    case step2 =>
     rintro y c st3 _ _ ⟨o,i,j,g,ac,bc,rfl,⟨q1,q2,q3,q4⟩,ok3⟩
     dsimp only
     refine via1 (T:=?T1) ?key1 ?main1
     case main1 =>
      intro key
      refine bF_ (fun hg=>?_) (fun hg=>?_)
      ·generalize g-1=g'
       exact key g'
      ·with_reducible exact key g
     case key1 =>
      intro g'
      refine wpS_bind (br_ ok3 fun st4 ok4=>?_)
      refine wpS_bind (u_ (by lia) ?_)
      refine wpS_bind (ae_ ok4.1.kind ha (ac_ hb _) (by lia) (by lia) fun k hk=>?_)
      refine bF_ (fun hk0=>?_) (fun hk0=>?_)
      ·skip
       refine K_ (fun hz=>wpS_pure (.inr ⟨_,_,rfl,(q1.extA k).last,ok4⟩)) (fun hz=>?_)
       refine K_ (fun hz2=>wpS_pure (.inr ⟨_,_,rfl,(q1.extA k).done,ok4⟩)) (fun hz2=>?_)
       refine wpS_bind (u_ (by lia) ?_)
       refine K_ (fun hy=>wpS_pure (.inr ⟨_,_,rfl,(Outs.pushB (q1.extA k) (by lia)).done,ok4⟩)) (fun hy=>?_)
       refine wpS_bind (u_ (by lia) ?_)
       refine wpS_bind (ae_ ok4.1.kind hb (ac_ ha _) (by lia) (by lia) fun k1 hk1=>?_)
       refine bF_ (fun hk2=>?_) (fun hk2=>?_)
       ·skip
        refine K_ (fun hy2=>wpS_pure (.inr ⟨_,_,rfl,((Outs.pushB (q1.extA k) (by lia)).extB k1).done,ok4⟩)) (fun hy2=>?_)
        refine wpS_bind (u_ (by lia) ?_)
        split
        ·exact wpS_pure (.inr ⟨_,_,rfl,(Outs.pushA ((Outs.pushB (q1.extA k) (by lia)).extB k1) (by lia)).last,ok4⟩)
        ·split
         ·exact wpS_pure (.inl ⟨_,_,_,_,_,_,rfl,⟨Outs.pushA ((Outs.pushB (q1.extA k) (by lia)).extB k1) (by lia),by lia,by lia,by lia⟩,ok4⟩)
         ·exact wpS_pure ⟨_,_,_,_,_,_,rfl,⟨Outs.pushA ((Outs.pushB (q1.extA k) (by lia)).extB k1) (by lia),by lia,by lia,by lia⟩,ok4⟩
       ·skip
        refine wpS_bind (u_ (by lia) ?_)
        split
        ·exact wpS_pure (.inr ⟨_,_,rfl,(Outs.pushA (Outs.pushB (q1.extA k) (by lia)) (by lia)).last,ok4⟩)
        ·split
         ·exact wpS_pure (.inl ⟨_,_,_,_,_,_,rfl,⟨Outs.pushA (Outs.pushB (q1.extA k) (by lia)) (by lia),by lia,by lia,by lia⟩,ok4⟩)
         ·exact wpS_pure ⟨_,_,_,_,_,_,rfl,⟨Outs.pushA (Outs.pushB (q1.extA k) (by lia)) (by lia),by lia,by lia,by lia⟩,ok4⟩
      ·skip
       refine wpS_bind (u_ (by lia) ?_)
       refine K_ (fun hy=>wpS_pure (.inr ⟨_,_,rfl,(Outs.pushB q1 (by lia)).done,ok4⟩)) (fun hy=>?_)
       refine wpS_bind (u_ (by lia) ?_)
       refine wpS_bind (ae_ ok4.1.kind hb (ac_ ha _) (by lia) (by lia) fun k1 hk1=>?_)
       refine bF_ (fun hk2=>?_) (fun hk2=>?_)
       ·skip
        refine K_ (fun hy2=>wpS_pure (.inr ⟨_,_,rfl,((Outs.pushB q1 (by lia)).extB k1).done,ok4⟩)) (fun hy2=>?_)
        refine wpS_bind (u_ (by lia) ?_)
        split
        ·exact wpS_pure (.inr ⟨_,_,rfl,(Outs.pushA ((Outs.pushB q1 (by lia)).extB k1) (by lia)).last,ok4⟩)
        ·split
         ·exact wpS_pure (.inl ⟨_,_,_,_,_,_,rfl,⟨Outs.pushA ((Outs.pushB q1 (by lia)).extB k1) (by lia),by lia,by lia,by lia⟩,ok4⟩)
         ·exact wpS_pure ⟨_,_,_,_,_,_,rfl,⟨Outs.pushA ((Outs.pushB q1 (by lia)).extB k1) (by lia),by lia,by lia,by lia⟩,ok4⟩
       ·skip
        refine wpS_bind (u_ (by lia) ?_)
        split
        ·exact wpS_pure (.inr ⟨_,_,rfl,(Outs.pushA (Outs.pushB q1 (by lia)) (by lia)).last,ok4⟩)
        ·split
         ·exact wpS_pure (.inl ⟨_,_,_,_,_,_,rfl,⟨Outs.pushA (Outs.pushB q1 (by lia)) (by lia),by lia,by lia,by lia⟩,ok4⟩)
         ·exact wpS_pure ⟨_,_,_,_,_,_,rfl,⟨Outs.pushA (Outs.pushB q1 (by lia)) (by lia),by lia,by lia,by lia⟩,ok4⟩
   ·obtain⟨o,i,j,ac,bc⟩:=rest
    exact wpS_pure ⟨_,_,rfl,hp,ok2⟩
end
end Srt
namespace Srt
open PySem PyProof.Rows
def hQ_:Array Keyed->Array Keyed->StateT SortSt Sem (Array Keyed):=sortPriv% PySem.Builtin.mergeHi
abbrev Behind(a b:Array Keyed)(o:Array Keyed)(i j:Nat):Prop:=o.toList.Perm (a.toList.drop i++b.toList.drop j)
section
variable{a b o:Array Keyed}{i j k:Nat}
theorem putA{α:Type}{o A B X:List α}(h:o.Perm (A++B)):(o++X).Perm ((X++A)++B):=by
 refine List.perm_append_comm.trans ?_
 rw[List.append_assoc]
 exact h.append_left X
theorem putB{α:Type}{o A B X:List α}(h:o.Perm (A++B)):(o++X).Perm (A++(X++B)):=by
 refine(h.append_right X).trans ?_
 rw[List.append_assoc]
 exact List.perm_append_comm.append_left A
theorem kG_(a:Array Keyed){k i:Nat}(h:k<=i):a.toList.drop k=(a.extract k i).toList++a.toList.drop i:=by
 obtain⟨d,rfl⟩:∃d,i=k+d:=⟨i-k,by lia⟩
 rw[bb_,<-List.drop_drop,List.take_append_drop]
theorem eH_(a:Array Keyed)(i:Nat):(a.extract 0 i).toList=a.toList.take i:=by
 have:=bb_ a 0 i
 rwa [Nat.zero_add] at this
theorem fL_(a:Array Keyed)(h0:1<=i)(hi:i<=a.size):a.toList.drop (i-1)=a[i-1]::a.toList.drop i:=by
 rw[List.drop_eq_getElem_cons (by simp;omega),show i-1+1=i by lia]
 simp
theorem Behind.pushA(h:Behind a b o i j)(h0:1<=i)(hi:i<=a.size):Behind a b (o.push a[i-1]) (i-1) j:=by
 unfold Behind at h⊢
 rw[Array.toList_push,fL_ a h0 hi]
 exact putA (X:=[a[i-1]]) h
theorem Behind.pushB(h:Behind a b o i j)(h0:1<=j)(hj:j<=b.size):Behind a b (o.push b[j-1]) i (j-1):=by
 unfold Behind at h⊢
 rw[Array.toList_push,fL_ b h0 hj]
 exact putB (X:=[b[j-1]]) h
theorem Behind.extA(h:Behind a b o i j)(hk:k<=i):Behind a b (o++(a.extract k i).reverse) k j:=by
 unfold Behind at h⊢
 rw[Array.toList_append,Array.toList_reverse,kG_ a hk]
 exact((List.reverse_perm _).append_left _).trans (putA h)
theorem Behind.extB(h:Behind a b o i j)(hk:k<=j):Behind a b (o++(b.extract k j).reverse) i k:=by
 unfold Behind at h⊢
 rw[Array.toList_append,Array.toList_reverse,kG_ b hk]
 exact((List.reverse_perm _).append_left _).trans (putB h)
theorem ng_{α:Type}(A B:List α){o:List α}(h:o.Perm (A.drop i++B.drop j)):(A.take i++B.take j++o).Perm (A++B):=by
 refine(h.append_left _).trans ?_
 have:(A.take i++B.take j++(A.drop i++B.drop j)).Perm ((A.take i++A.drop i)++(B.take j++B.drop j)):=by
  rw[List.append_assoc,List.append_assoc]
  refine List.Perm.append_left _ ?_
  rw[<-List.append_assoc,<-List.append_assoc]
  exact List.perm_append_comm.append_right _
 rwa [List.take_append_drop,List.take_append_drop] at this
theorem Behind.done(h:Behind a b o i j):(a.extract 0 i++b.extract 0 j++o.reverse).toList.Perm (a.toList++b.toList):=by
 unfold Behind at h
 rw[Array.toList_append,Array.toList_append,eH_,eH_,Array.toList_reverse]
 exact ng_ _ _ ((List.reverse_perm _).trans h)
theorem Behind.first(h:Behind a b o i j):(b.extract 0 j++a.extract 0 i++o.reverse).toList.Perm (a.toList++b.toList):=by
 unfold Behind at h
 rw[Array.toList_append,Array.toList_append,eH_,eH_,Array.toList_reverse]
 exact(List.perm_append_comm.append_right _).trans (ng_ _ _ ((List.reverse_perm _).trans h))
end
section
variable{prog:Program}{w:World}{A:Around}{E:Value->Shared->Prop}{s:Shared}{st:SortSt}{a₀ x₀:Array Keyed}{p:Array (Nat×Nat×Nat)}
abbrev HiOn(a b:Array Keyed)(m:Nat)(o:Array Keyed)(i j:Nat):Prop:=Behind a b o i j/\(1<=i/\i<=a.size)/\(2<=j/\j<=b.size)/\m+i+j<=a.size+b.size
theorem ga_{a b:Array Keyed}{Q:Array Keyed->SortSt->Prop}(ok:Still a₀ p x₀ st)(ha:IntKeys a)(hb:IntKeys b)(ha1:1<=a.size)(hb1:1<=b.size)
  (h:∀o st',Still a₀ p x₀ st'->o.toList.Perm (a.toList++b.toList)->Q o st'):wpS (model prog w) A E s (hQ_ a b) Q st:=by
 unfold hQ_
 show wpS _ _ _ _ (_>>=_) _ _
 refine wpS_bind (wpS_lift (wpAny_rule ⟨rfl,?_⟩))
 refine wpS_bind (u_ (by lia) ?_)
 have o1:Behind a b #[a[a.size-1]] (a.size-1) b.size:=by
  have:Behind a b #[] a.size b.size:=by simp[Behind]
  exact this.pushA (by lia) (by lia)
 refine K_ (fun h1=>wpS_pure (h _ _ ok o1.done)) (fun h1=>?_)
 refine K_ (fun h2=>wpS_pure (h _ _ ok o1.first)) (fun h2=>?_)
 refine wpS_bind (wpS_get ?_)
 refine wpS_bind (wpS_mono (wpS_forRange (I:=fun m c st'=>∃i j o g,c=(none,i,j,o,g)/\HiOn a b m o i j/\Still a₀ p x₀ st')
  (Q:=fun c st'=>∃r rest,c=(some r,rest)/\r.toList.Perm (a.toList++b.toList)/\Still a₀ p x₀ st') ?step ?fin ⟨_,_,_,_,rfl,⟨o1,by lia,by lia,by lia⟩,ok⟩) ?post)
 case fin =>
  rintro c st' ⟨i,j,o,g,rfl,⟨_,h3,h4,h5⟩,_⟩
  omega
 case post =>
  rintro c st' ⟨r,rest,rfl,hp,ok'⟩
  exact wpS_pure (h _ _ ok' hp)
 case step =>
  rintro m c st' _ hm ⟨i,j,o,g,rfl,on,ok'⟩
  refine wpS_bind (wpS_mono (wpS_forRange (I:=fun y c st2=>∃i j o ac bc,c=(none,i,j,o,ac,bc)/\HiOn a b (m+y) o i j/\Still a₀ p x₀ st2)
   (Q:=fun c st2=>(∃i j o ac bc,c=(none,i,j,o,ac,bc)/\HiOn a b (m+1) o i j/\Still a₀ p x₀ st2)\/∃r rest,c=(some r,rest)/\r.toList.Perm (a.toList++b.toList)/\Still a₀ p x₀ st2) ?step1 ?fin1 ⟨_,_,_,_,_,rfl,on,ok'⟩) ?post1)
  case fin1 =>
   rintro c st2 ⟨i,j,o,ac,bc,rfl,⟨q1,q2,q3,q4⟩,ok2⟩
   exact .inl ⟨_,_,_,_,_,rfl,⟨q1,q2,q3,by lia⟩,ok2⟩
  case step1 =>
   rintro y c st2 _ hy ⟨i,j,o,ac,bc,rfl,⟨q1,q2,q3,q4⟩,ok2⟩
   dsimp only
   refine wpS_bind (u_ (by lia) (wpS_bind (u_ (by lia) (wpS_bind (eN_ ok2.1.kind (ac_ hb _) (ac_ ha _) fun r=>?_)))))
   cases r with
   | true =>
    dsimp only
    rw[if_pos rfl]
    refine wpS_bind (u_ (by lia) ?_)
    refine K_ (fun hz=>wpS_pure (.inr ⟨_,_,rfl,(q1.pushA (by lia) (by lia)).done,ok2⟩)) (fun hz=>?_)
    split
    ·exact wpS_pure (.inl ⟨_,_,_,_,_,rfl,⟨q1.pushA (by lia) (by lia),by lia,by lia,by lia⟩,ok2⟩)
    ·exact wpS_pure ⟨_,_,_,_,_,rfl,⟨q1.pushA (by lia) (by lia),by lia,by lia,by lia⟩,ok2⟩
   | false =>
    dsimp only
    rw[if_neg Bool.false_ne_true]
    refine wpS_bind (u_ (by lia) ?_)
    refine K_ (fun hz=>wpS_pure (.inr ⟨_,_,rfl,(q1.pushB (by lia) (by lia)).first,ok2⟩)) (fun hz=>?_)
    split
    ·exact wpS_pure (.inl ⟨_,_,_,_,_,rfl,⟨q1.pushB (by lia) (by lia),by lia,by lia,by lia⟩,ok2⟩)
    ·exact wpS_pure ⟨_,_,_,_,_,rfl,⟨q1.pushB (by lia) (by lia),by lia,by lia,by lia⟩,ok2⟩
  case post1 =>
   rintro c st2 (⟨i,j,o,ac,bc,rfl,on2,ok2⟩ | ⟨r,rest,rfl,hp,ok2⟩)
   ·dsimp only
    refine wpS_bind (wpS_lift (wpAny_rule ⟨rfl,?_⟩))
    refine wpS_bind (wpS_mono (wpS_forRange (I:=fun _ c st3=>∃i j o g ac bc,c=(none,i,j,o,g,ac,bc)/\HiOn a b (m+1) o i j/\Still a₀ p x₀ st3)
     (Q:=fun c st3=>(∃i j o g ac bc,c=(none,i,j,o,g,ac,bc)/\HiOn a b (m+1) o i j/\Still a₀ p x₀ st3)\/∃r rest,c=(some r,rest)/\r.toList.Perm (a.toList++b.toList)/\Still a₀ p x₀ st3) ?step2 (fun _ _ z=>.inl z) ⟨_,_,_,_,_,_,rfl,on2,ok2⟩) ?post2)
    case post2 =>
     rintro c st3 (⟨i,j,o,g,ac,bc,rfl,on3,ok3⟩ | ⟨r,⟨i,j,o,g,ac,bc⟩,rfl,hp,ok3⟩)
     ·dsimp only
      exact wpS_bind (br_ ok3 fun st4 ok4=>wpS_pure ⟨_,_,_,_,rfl,on3,ok4⟩)
     ·exact wpS_pure ⟨_,_,rfl,hp,ok3⟩
    case step2 =>
     rintro y c st3 _ _ ⟨i,j,o,g,ac,bc,rfl,⟨q1,q2,q3,q4⟩,ok3⟩
     dsimp only
     refine via1 (T:=?T1) ?key1 ?main1
     case main1 =>
      intro key
      refine bF_ (fun hg=>?_) (fun hg=>?_)
      ·generalize g-1=g'
       exact key g'
      ·with_reducible exact key g
     case key1 =>
      intro g'
      refine wpS_bind (br_ ok3 fun st4 ok4=>?_)
      refine wpS_bind (u_ (by lia) ?_)
      refine wpS_bind (ae_ ok4.1.kind ha (ac_ hb _) (by lia) (by lia) fun k hk=>?_)
      refine via3 (T:=?T2) (fun o2 i2=>Behind a b o2 i2 j/\1<=i2/\i2<=a.size/\m+1+i2+j<=a.size+b.size) ?key2 ?main2
      case main2 =>
       intro key
       refine bF_ (fun hk0=>?_) (fun hk0=>?_)
       ·skip
        have x1:Behind a b (o++(a.extract k i).reverse) k j:=Behind.extA (k:=k) q1 (by lia)
        refine K_ (fun hz=>wpS_pure (.inr ⟨_,_,rfl,x1.done,ok4⟩)) (fun hz=>?_)
        have pk:1<=k/\k<=a.size/\m+1+k+j<=a.size+b.size:=by lia
        clear hz hk0
        generalize o++(a.extract k i).reverse=o2 at x1⊢
        generalize i-k=ka
        generalize k=i2 at x1 pk⊢
        exact key o2 i2 ka ⟨x1,pk⟩
       ·with_reducible exact key o i (i-k) ⟨q1,q2.1,q2.2,q4⟩
      case key2 =>
       rintro o2 i2 ka ⟨r1,r2,hi2,hmm⟩
       clear q1 q2 q4 hk
       refine wpS_bind (u_ (by lia) ?_)
       have y1:=r1.pushB (by lia) q3.2
       refine K_ (fun hy=>wpS_pure (.inr ⟨_,_,rfl,y1.first,ok4⟩)) (fun hy=>?_)
       have hj2:2<=j-1/\j-1<=b.size/\m+1+i2+(j-1)<=a.size+b.size:=by lia
       generalize o2.push b[j-1]=o3 at y1⊢
       clear r1 hy hmm q3
       generalize j-1=j2 at y1 hj2⊢
       refine wpS_bind (u_ (by lia) ?_)
       refine wpS_bind (ae_ ok4.1.kind hb (ac_ ha _) (by lia) (by lia) fun k1 hk1=>?_)
       refine via3 (T:=?T3) (fun o5 j5=>Behind a b o5 i2 j5/\2<=j5/\j5<=b.size/\m+1+i2+j5<=a.size+b.size) ?key3 ?main3
       case main3 =>
        intro key
        refine bF_ (fun hk2=>?_) (fun hk2=>?_)
        ·skip
         have z1:=Behind.extB (k:=k1) y1 (by lia)
         refine K_ (fun hy2=>wpS_pure (.inr ⟨_,_,rfl,z1.first,ok4⟩)) (fun hy2=>?_)
         refine K_ (fun hy3=>wpS_pure (.inr ⟨_,_,rfl,z1.done,ok4⟩)) (fun hy3=>?_)
         have pt:2<=k1/\k1<=b.size/\m+1+i2+k1<=a.size+b.size:=by lia
         clear hy2 hy3 hk2
         generalize o3++(b.extract k1 j2).reverse=o5 at z1⊢
         generalize j2-k1=kb
         generalize k1=j5 at z1 pt⊢
         exact key o5 j5 kb ⟨z1,pt⟩
        ·with_reducible exact key o3 j2 (j2-k1) ⟨y1,hj2⟩
       case key3 =>
        rintro o5 j5 kb ⟨t1,t2,t3,t4⟩
        refine wpS_bind (u_ (by lia) ?_)
        have u1:=t1.pushA r2 hi2
        refine K_ (fun hz=>wpS_pure (.inr ⟨_,_,rfl,u1.done,ok4⟩)) (fun hz=>?_)
        have on5:HiOn a b (m+1) (o5.push a[i2-1]) (i2-1) j5:=⟨u1,⟨by lia,by lia⟩,⟨t2,t3⟩,by lia⟩
        split
        ·exact wpS_pure (.inl ⟨_,_,_,_,_,_,rfl,on5,ok4⟩)
        ·exact wpS_pure ⟨_,_,_,_,_,_,rfl,on5,ok4⟩
   ·obtain⟨i,j,o,ac,bc⟩:=rest
    exact wpS_pure ⟨_,_,rfl,hp,ok2⟩
end
end Srt
namespace Srt
open PySem PyProof.Rows
def Cov:List (Nat×Nat×Nat)->Nat->Nat->Prop
 | [],s,e=>s=e
 | q::r,s,e=>q.1=s/\1<=q.2.1/\Cov r (s+q.2.1) e
theorem Cov.le:∀ {l:List (Nat×Nat×Nat)} {s e:Nat},Cov l s e->s<=e
 | [],_,_,h=>by unfold Cov at h;lia
 | q::r,s,e,h=>by
  obtain⟨h1,h2,h3⟩:=h
  have:=h3.le
  lia
theorem Cov.snoc:∀ {l:List (Nat×Nat×Nat)} {s e n g:Nat},Cov l s e->1<=n->Cov (l++[(e,n,g)]) s (e+n)
 | [],_,_,_,_,h,hn=>by unfold Cov at h;subst h;exact⟨rfl,hn,rfl⟩
 | q::r,s,e,n,g,h,hn=>⟨h.1,h.2.1,h.2.2.snoc hn⟩
theorem Cov.two:∀ {l:List (Nat×Nat×Nat)} {s e i:Nat},Cov l s e->i+1<l.length->∃a n g m g',l[i]?=some (a,n,g)/\l[i+1]?=some (a+n,m,g')/\1<=n/\1<=m/\a+n+m<=e/\
  Cov ((l.set i (a,n+m,g)).eraseIdx (i+1)) s e
 | [],_,_,_,_,h=>by simp at h
 | [q],_,_,i,_,h=>by simp at h
 | q::q'::r,s,e,0,h,_=>by
  obtain⟨h1,h2,h3,h4,h5⟩:=h
  have:=h5.le
  obtain⟨a,n,g⟩:=q
  obtain⟨b,m,g'⟩:=q'
  simp only at h1 h2 h3 h4 h5 this
  subst h1 h3
  refine⟨_,_,_,_,_,rfl,rfl,h2,h4,by lia,rfl,by simp only;lia,?_⟩
  simp only
  rw[<-Nat.add_assoc]
  exact h5
 | q::q'::r,s,e,i+1,h,hi=>by
  obtain⟨a,n,g,m,g',e1,e2,h1,h2,h3,h4⟩:=h.2.2.two (i:=i) (by simp at hi⊢;lia)
  exact⟨a,n,g,m,g',by simpa using e1,by simpa using e2,h1,h2,h3,by simpa using ⟨h.1,h.2.1,h4⟩⟩
theorem Cov.mod:∀ {l:List (Nat×Nat×Nat)} {s e i g:Nat},Cov l s e->Cov (l.modify i fun q=>(q.1,q.2.1,g)) s e
 | [],_,_,i,_,h=>by cases i <;> simpa using h
 | q::r,s,e,0,g,h=>by simpa [Cov] using h
 | q::r,s,e,i+1,g,h=>by
  have:=h.2.2.mod (i:=i) (g:=g)
  simpa using ⟨h.1,h.2.1,this⟩
theorem wrote:∀(l:List Keyed) (x:Array Keyed) (d k:Nat),d+k+l.length<=x.size->
  ((l.zipIdx k).foldl (fun(y:Array Keyed) (q:Keyed×Nat)=>y.setIfInBounds (d+q.2) q.1) x).toList=x.toList.take (d+k)++l++x.toList.drop (d+k+l.length)
 | [],x,d,k,h=>by simp
 | q::l,x,d,k,h=>by
  simp only[List.length_cons] at h
  rw[List.zipIdx_cons,List.foldl_cons]
  have z:x.size=(x.setIfInBounds (d+k) q).size:=by simp
  have ih:=wrote l (x.setIfInBounds (d+k) q) d (k+1) (by rw[<-z];lia)
  rw[ih,Array.toList_setIfInBounds,List.drop_set_of_lt (by lia),show d+(k+1)=d+k+1 by lia,List.take_add_one,List.getElem?_set_self (by simp;lia)]
  rw[List.take_set,List.set_eq_of_length_le (by rw[List.length_take];lia)]
  simp only[List.length_cons,Option.toList_some,List.append_assoc,List.cons_append,List.nil_append]
  congr 4
  lia
theorem ig_{x o:Array Keyed}{i k:Nat}(hk:i+k<=x.size)(h:o.toList.Perm ((x.toList.drop i).take k)) :
  (o.toList.zipIdx.foldl (fun(y:Array Keyed) (q:Keyed×Nat)=>y.setIfInBounds (i+q.2) q.1) x).Perm x:=by
 have hl:o.toList.length=k:=by rw[h.length_eq];simp;lia
 rw[Array.perm_iff_toList_perm,wrote _ _ _ _ (by lia)]
 have e:x.toList=x.toList.take i++((x.toList.drop i).take k++x.toList.drop (i+k)):=by rw[<-List.drop_drop,List.take_append_drop,List.take_append_drop]
 conv=>rhs;rw[e]
 rw[Nat.add_zero,hl,List.append_assoc]
 exact(h.append_right _).append_left _
section
variable{prog:Program}{w:World}{A:Around}{E:Value->Shared->Prop}{s:Shared}{st:SortSt}{a₀ x₀:Array Keyed}{p:Array (Nat×Nat×Nat)}
theorem nl_{σ:Type}{M:Model}{x:σ}{Q:PUnit->σ->Prop}{st:σ}(h:Q ⟨⟩ x):wpS M A E s (set x:StateT σ Sem PUnit) Q st:=by
 unfold wpS
 rw[StateT.run_set]
 exact wpAny_pure ⟨rfl,h⟩
theorem hU_{x:Array Keyed}(h:IntKeys x)(i k:Nat):IntKeys (x.extract i (i+k)):=fun q hq=>by
 rw[bb_] at hq
 exact h q (List.mem_of_mem_drop (List.mem_of_mem_take hq))
theorem bE_{i e:Nat}{Q:Bool->SortSt->Prop}(h0:IntKeys a₀)(ok:Ok a₀ p st)(hc:Cov p.toList 0 e)(he:e<=a₀.size)(hi:i+1<p.size)
  (h:∀p' st',Ok a₀ p' st'->Cov p'.toList 0 e->p'.size+1=p.size->Q true st'):wpS (model prog w) A E s (mergeAt' i) Q st:=by
 obtain⟨sa,na,g,nb,g',e1,e2,h1,h2,h3,h4⟩:=hc.two (i:=i) (by simpa using hi)
 have hsz:=ok.size
 have hks:=ok.keys h0
 have p1:(pendingOf st)[i]?=some (sa,na,g):=by rw[ok.pend];simpa using e1
 have p2:(pendingOf st)[i+1]?=some (sa+na,nb,g'):=by rw[ok.pend];simpa using e2
 unfold mergeAt'
 show wpS _ _ _ _ (_>>=_) _ _
 refine wpS_bind (wpS_get ?_)
 rw[p1,p2]
 dsimp only
 refine wpS_bind (nl_ ?_)
 have ok1:Ok a₀ (((pendingOf st).setIfInBounds i (sa,na+nb,g)).eraseIdxIfInBounds (i+1)) (SortSt.mk' (kindOf st) (arrOf st) (((pendingOf st).setIfInBounds i (sa,na+nb,g)).eraseIdxIfInBounds (i+1)) (gallopOf st) (failedOf st)) :=
  ⟨ok.perm,ok.kind,ok.failed,rfl⟩
 have z1:(((pendingOf st).setIfInBounds i (sa,na+nb,g)).eraseIdxIfInBounds (i+1)).toList=(p.toList.set i (sa,na+nb,g)).eraseIdx (i+1):=by
  rw[ok.pend,Array.eraseIdxIfInBounds,dif_pos (by simpa using hi)]
  simp
 have c1:Cov (((pendingOf st).setIfInBounds i (sa,na+nb,g)).eraseIdxIfInBounds (i+1)).toList 0 e:=by rw[z1];exact h4
 have n1:(((pendingOf st).setIfInBounds i (sa,na+nb,g)).eraseIdxIfInBounds (i+1)).size+1=p.size:=by
  have:=congrArg List.length z1
  rw[List.length_eraseIdx_of_lt (by simpa using hi),List.length_set] at this
  simp only[Array.length_toList] at this
  lia
 refine wpS_bind (u_ (by show _<(arrOf st).size;lia) ?_)
 refine wpS_bind (ae_ ok1.kind hks (ac_ hks _) (by show _<=(arrOf st).size;lia) (by lia) fun k hk=>?_)
 dsimp only
 by_cases hz:na-k=0
 ·rw[if_pos (by simpa using hz)]
  exact wpS_pure (h _ _ ok1 c1 n1)
 rw[if_neg (by simpa using hz)]
 refine wpS_bind (u_ (by show _<(arrOf st).size;lia) ?_)
 refine wpS_bind (ae_ ok1.kind hks (ac_ hks _) (by show _<=(arrOf st).size;lia) (by lia) fun m hm=>?_)
 dsimp only
 by_cases hz2:m=0
 ·rw[if_pos (by simpa using hz2)]
  exact wpS_pure (h _ _ ok1 c1 n1)
 rw[if_neg (by simpa using hz2)]
 have ex:(arrOf st).extract (sa+k) (sa+na)=(arrOf st).extract (sa+k) (sa+k+(na-k)):=by congr 1;lia
 have kx:IntKeys ((arrOf st).extract (sa+k) (sa+na)):=by rw[ex];exact hU_ hks _ _
 have ky:IntKeys ((arrOf st).extract (sa+na) (sa+na+m)):=hU_ hks _ _
 have xy:((arrOf st).extract (sa+k) (sa+na)).toList++((arrOf st).extract (sa+na) (sa+na+m)).toList=((arrOf st).toList.drop (sa+k)).take (na-k+m):=by
  rw[ex,bb_,bb_,List.take_add,List.drop_drop]
  congr 3
  lia
 have fin:∀(o:Array Keyed) (st':SortSt),Still a₀ (((pendingOf st).setIfInBounds i (sa,na+nb,g)).eraseIdxIfInBounds (i+1)) (arrOf st) st'->o.toList.Perm (((arrOf st).extract (sa+k) (sa+na)).toList++((arrOf st).extract (sa+na) (sa+na+m)).toList)->
   Ok a₀ (((pendingOf st).setIfInBounds i (sa,na+nb,g)).eraseIdxIfInBounds (i+1)) (setArr st' (o.toList.zipIdx.foldl (fun(y:Array Keyed) (q:Keyed×Nat)=>y.setIfInBounds (sa+k+q.2) q.1) (arrOf st'))):=fun o st' ok2 hp=>by
  refine ok2.1.set ?_
  rw[xy] at hp
  rw[ok2.2]
  exact ig_ (by lia) hp
 have sx:1<=((arrOf st).extract (sa+k) (sa+na)).size:=by rw[Array.size_extract];lia
 have sy:1<=((arrOf st).extract (sa+na) (sa+na+m)).size:=by rw[Array.size_extract];lia
 by_cases hle:na-k<=m
 ·rw[if_pos hle]
  refine wpS_bind (fZ_ ⟨ok1,rfl⟩ kx ky sx sy fun o st' ok2 hp=>?_)
  refine wpS_bind (wpS_modify (wpS_bind (wpS_get (wpS_pure ?_))))
  have ok3:=fin o st' ok2 hp
  have e3:=ok3.failed
  have:=h _ _ ok3 c1 n1
  rw[show(failedOf st').isNone=true by rw[ok2.1.failed];rfl]
  exact this
 ·rw[if_neg hle]
  refine wpS_bind (ga_ ⟨ok1,rfl⟩ kx ky sx sy fun o st' ok2 hp=>?_)
  refine wpS_bind (wpS_modify (wpS_bind (wpS_get (wpS_pure ?_))))
  have ok3:=fin o st' ok2 hp
  have:=h _ _ ok3 c1 n1
  rw[show(failedOf st').isNone=true by rw[ok2.1.failed];rfl]
  exact this
end
end Srt
namespace Srt
open PySem PyProof.Rows
section
variable{prog:Program}{w:World}{A:Around}{E:Value->Shared->Prop}{s:Shared}{st:SortSt}{a₀ x₀:Array Keyed}{p:Array (Nat×Nat×Nat)}
theorem Ok.setP(h:Ok a₀ p st)(p':Array (Nat×Nat×Nat)):Ok a₀ p' (setPending st p'):=⟨h.perm,h.kind,h.failed,rfl⟩
theorem lj_{Q:Unit->SortSt->Prop}(h0:IntKeys a₀)(ok:Ok a₀ #[] st)(h:∀st',(arrOf st').Perm a₀->failedOf st'=none->Q () st'):wpS (model prog w) A E s sortRuns' Q st:=by
 rw[sortRuns'_eq]
 refine wpS_bind (wpS_get ?_)
 dsimp only
 simp only[ok.size]
 refine wpS_bind (wpS_mono (wpS_forRange (I:=fun _ c st'=>∃lo p,c=(none,lo)/\Ok a₀ p st'/\Cov p.toList 0 lo/\lo<=a₀.size) (Q:=fun c st'=>∃lo p,c=(none,lo)/\Ok a₀ p st'/\Cov p.toList 0 lo/\lo<=a₀.size) ?step (fun _ _ z=>z) ⟨0,#[],rfl,ok,rfl,by omega⟩) ?post)
 case step =>
  rintro x c st' _ hx ⟨lo,p,rfl,ok',hc,hlo⟩
  dsimp only
  by_cases hz:lo>=a₀.size
  ·rw[if_pos hz]
   exact wpS_pure ⟨lo,p,rfl,ok',hc,hlo⟩
  rw[if_neg hz]
  refine wpS_bind (iR_ h0 (by omega) (by omega) ok' fun m stX ok2 hm1 hm2=>?_)
  dsimp only
  by_cases hmr:m<minRun' a₀.size a₀.size 0
  ·rw[if_pos hmr]
   refine wpS_bind (wpS_lift (wpAny_rule ⟨rfl,?_⟩))
   refine wpS_bind (nm_ h0 (by omega) ok2 fun stX ok3=>?_)
   rw[if_neg (by decide)]
   refine wpS_bind (wpS_get ?_)
   cases hbk:(pendingOf stX).back? with
   | none =>
    dsimp only
    refine wpS_bind (wpS_modify (wpS_pure ⟨_,_,rfl,Ok.setP ok3 _,?_,by omega⟩))
    show Cov ((pendingOf stX).push _).toList 0 _
    rw[Array.toList_push,Ok.pend ok3]
    exact hc.snoc (by omega)
   | some q =>
    obtain⟨s1,n1,g1⟩:=q
    dsimp only
    refine wpS_bind (wpS_mono (wpS_forRange (I:=fun _ c st3=>c=(none,())/\∃p,Ok a₀ p st3/\Cov p.toList 0 lo) (Q:=fun c st3=>c=(none,())/\∃p,Ok a₀ p st3/\Cov p.toList 0 lo) ?_ (fun _ _ z=>z) ⟨rfl,_,ok3,hc⟩) ?_)
    ·rintro y c st3 _ _ ⟨rfl,p3,ok3,hc3⟩
     refine wpS_bind (wpS_get ?_)
     rw[ok3.pend]
     by_cases h2:p3.size>1
     ·rw[if_pos h2,getElem?_pos p3 (p3.size-2) (by omega)]
      generalize p3[p3.size-2]=q
      obtain⟨u,v,old⟩:=q
      dsimp only
      split
      ·exact wpS_pure ⟨rfl,p3,ok3,hc3⟩
      ·exact wpS_bind (bE_ h0 ok3 hc3 hlo (by omega) fun p4 st4 ok4 hc4 _=>wpS_pure ⟨rfl,p4,ok4,hc4⟩)
     ·rw[if_neg h2]
      exact wpS_pure ⟨rfl,p3,ok3,hc3⟩
    ·rintro c st3 ⟨rfl,p3,ok3,hc3⟩
     refine wpS_bind (wpS_modify (wpS_bind (wpS_modify (wpS_pure ⟨_,_,rfl,⟨ok3.perm,ok3.kind,ok3.failed,rfl⟩,?_,by omega⟩))))
     show Cov (((pendingOf st3).modify _ _).push _).toList 0 _
     rw[Array.toList_push,Array.toList_modify,ok3.pend]
     exact(Cov.mod hc3).snoc (by omega)
  ·rw[if_neg hmr]
   refine wpS_bind (wpS_get ?_)
   cases hbk:(pendingOf stX).back? with
   | none =>
    dsimp only
    refine wpS_bind (wpS_modify (wpS_pure ⟨_,_,rfl,Ok.setP ok2 _,?_,by omega⟩))
    show Cov ((pendingOf stX).push _).toList 0 _
    rw[Array.toList_push,Ok.pend ok2]
    exact hc.snoc (by omega)
   | some q =>
    obtain⟨s1,n1,g1⟩:=q
    dsimp only
    refine wpS_bind (wpS_mono (wpS_forRange (I:=fun _ c st3=>c=(none,())/\∃p,Ok a₀ p st3/\Cov p.toList 0 lo) (Q:=fun c st3=>c=(none,())/\∃p,Ok a₀ p st3/\Cov p.toList 0 lo) ?_ (fun _ _ z=>z) ⟨rfl,_,ok2,hc⟩) ?_)
    ·rintro y c st3 _ _ ⟨rfl,p3,ok3,hc3⟩
     refine wpS_bind (wpS_get ?_)
     rw[ok3.pend]
     by_cases h2:p3.size>1
     ·rw[if_pos h2,getElem?_pos p3 (p3.size-2) (by omega)]
      generalize p3[p3.size-2]=q
      obtain⟨u,v,old⟩:=q
      dsimp only
      split
      ·exact wpS_pure ⟨rfl,p3,ok3,hc3⟩
      ·exact wpS_bind (bE_ h0 ok3 hc3 hlo (by omega) fun p4 st4 ok4 hc4 _=>wpS_pure ⟨rfl,p4,ok4,hc4⟩)
     ·rw[if_neg h2]
      exact wpS_pure ⟨rfl,p3,ok3,hc3⟩
    ·rintro c st3 ⟨rfl,p3,ok3,hc3⟩
     refine wpS_bind (wpS_modify (wpS_bind (wpS_modify (wpS_pure ⟨_,_,rfl,⟨ok3.perm,ok3.kind,ok3.failed,rfl⟩,?_,by omega⟩))))
     show Cov (((pendingOf st3).modify _ _).push _).toList 0 _
     rw[Array.toList_push,Array.toList_modify,ok3.pend]
     exact(Cov.mod hc3).snoc (by omega)
 case post =>
  rintro c st' ⟨lo,p,rfl,ok',hc,hlo⟩
  dsimp only
  refine wpS_bind (wpS_mono (wpS_forRange (I:=fun _ c st3=>c=(none,())/\∃p,Ok a₀ p st3/\Cov p.toList 0 lo) (Q:=fun c st3=>c=(none,())/\∃p,Ok a₀ p st3/\Cov p.toList 0 lo) ?_ (fun _ _ z=>z) ⟨rfl,_,ok',hc⟩) ?_)
  ·rintro y c st3 _ _ ⟨rfl,p3,ok3,hc3⟩
   refine wpS_bind (wpS_get ?_)
   rw[ok3.pend]
   by_cases h2:p3.size<=1
   ·rw[if_pos h2]
    exact wpS_pure ⟨rfl,p3,ok3,hc3⟩
   ·rw[if_neg h2]
    have hi:∀(c:Prop) [Decidable c],(if c then p3.size-2-1 else p3.size-2)+1<p3.size:=fun c _=>by
     by_cases hc:c
     ·rw[if_pos hc];omega
     ·rw[if_neg hc];omega
    exact wpS_bind (bE_ h0 ok3 hc3 hlo (hi _) fun p4 st4 ok4 hc4 _=>wpS_pure ⟨rfl,p4,ok4,hc4⟩)
  ·rintro c st3 ⟨rfl,p3,ok3,hc3⟩
   exact wpS_pure (h _ ok3.perm ok3.failed)
end
end Srt
namespace Srt
open PySem PyProof.Rows
theorem lA_{vs:List Value}{ns:List Int}(hI:IntsAre vs ns){xs:Array Keyed}(hp:xs.Perm (pairsOf vs)):∃ns',IntsAre (xs.map (·.2)).toList ns'/\ns'.Perm ns:=by
 have hq:(xs.map (·.2)).toList.Perm vs:=by
  have h1:=(Array.perm_iff_toList_perm.mp hp).map (·.2)
  have h2:(pairsOf vs).toList.map (·.2)=vs:=by rw[pairsOf_toList];exact List.map_snd_zip (Nat.le_refl _)
  rw[h2] at h1
  rwa [Array.toList_map]
 refine⟨_,intsAre_map _ fun v hv=>hI.all v (hq.mem_iff.mp hv),?_⟩
 rw[<-hI.nums]
 exact hq.map numOf
section
variable{prog:Program}{w:World}{A:Around}{E:Value->Shared->Prop}{s:Shared}
theorem eB_{l:Addr}{vs:List Value}{ns:List Int}{n:Nat}{P:Fin->Shared->Prop}(at_:s.heap.get? l=some (seqObj "list" vs.toArray n))(hI:IntsAre vs ns)(hz:vs.length<=sizeLine)
  (h:∀(out:Array Value) (ns':List Int),IntsAre out.toList ns'->ns'.Perm ns->P (.done (.ret .none)) {s with heap:=sortedHeap s.heap l vs out}) :
  wpAny (model prog w) A (Builtin.«list.sort» ⟨[.ref l],[]⟩) P E s:=by
 have hlt:l<s.heap.objs.size:=Heap.lt_size at_
 have hsz:vs.toArray.size=vs.length:=by simp
 rw[list_sort_plain]
 obtain⟨e1,at1⟩:∃e1,(s.heap.update l (Obj.mapSeq fun _=>#[])).get? l=some (seqObj "list" #[] e1):=⟨_,get?_update_seq at_ (fun _=>#[])⟩
 refine wpAny_bind (listItems_at at_ rfl (wpAny_bind (listUpdate_at at_ rfl (wpAny_bind (seqEpoch_at at1 rfl (wpAny_bind (wpAny_newTuple (wpAny_bind (wpAny_newList (wpAny_holding ?_))))))) (by omega) (by simp))))
 have at2:(((s.heap.update l (Obj.mapSeq fun _=>#[])).push (seqObj "tuple" vs.toArray 0)).push (seqObj "list" #[] 0)).get? l=some (seqObj "list" #[] e1):=by
  refine Heap.get?_push_of_some _ (Heap.get?_push_of_some _ at1)
 show wpAny (model prog w) A _ P E {s with heap:=((s.heap.update l (Obj.mapSeq fun _=>#[])).push (seqObj "tuple" vs.toArray 0)).push (seqObj "list" #[] 0)}
 dsimp only
 have fin:∀st':SortSt,(arrOf st').Perm (pairsOf vs)->P (.done (.ret .none)) {s with heap:=sortedHeap s.heap l vs ((arrOf st').map (·.2))}:=fun st' hp=>by
  obtain⟨ns',h1,h2⟩:=lA_ hI hp
  exact h _ ns' h1 h2
 have big:∀st':SortSt,(arrOf st').Perm (pairsOf vs)->((arrOf st').map (·.2)).size<=sizeLine+1:=fun st' hp=>by
  rw[Array.size_map,hp.size_eq,pairsOf_size];omega
 by_cases h2:vs.toArray.size<2
 ·rw[if_pos h2,if_pos h2]
  refine wpAny_bind (wpAny_pure (show wpAny _ _ _ _ _ _ from ?_))
  rw[StateT.run_pure]
  refine wpAny_bind (wpAny_pure (wpAny_bind (seqEpoch_at at2 rfl (wpAny_bind (listUpdate_at at2 rfl ?_ (by simp) (big (SortSt.mk' general' (vs.toArray.zip vs.toArray) #[] 7 none) (Array.Perm.refl _)))))))
  simp only[bne_self_eq_false,Bool.false_eq_true,if_false]
  exact wpAny_pure (fin (SortSt.mk' general' (vs.toArray.zip vs.toArray) #[] 7 none) (Array.Perm.refl _))
 ·rw[if_neg h2,if_neg h2]
  obtain⟨v1,v2,r,rfl⟩:∃v1 v2 r,vs=v1::v2::r:=by
   rcases vs with _ | ⟨v1,_ | ⟨v2,r⟩⟩
   ·simp at h2
   ·simp at h2
   ·exact⟨v1,v2,r,rfl⟩
  rw[keyKind_ints hI]
  refine wpAny_bind (wpAny_pure (wpAny_bind (wpAny_mono (lj_ (a₀:=pairsOf (v1::v2::r)) (st:=SortSt.mk' oneType' ((v1::v2::r).toArray.zip (v1::v2::r).toArray) #[] 7 none)
   (Q:=fun _ st'=>(arrOf st').Perm (pairsOf (v1::v2::r))/\failedOf st'=none) hI.intKeys ⟨Array.Perm.refl _,rfl,rfl,rfl⟩ fun st' a1 a2=>⟨a1,a2⟩) ?_ fun _ _ e=>e)))
  rintro⟨⟨⟩,st'⟩ s' ⟨rfl,hp,hf⟩
  dsimp only
  refine wpAny_bind (seqEpoch_at at2 rfl (wpAny_bind (listUpdate_at at2 rfl ?_ (by simp) (big st' hp))))
  rw[hf]
  simp only[bne_self_eq_false,Bool.false_eq_true,if_false]
  exact wpAny_pure (fin st' hp)
end
end Srt
namespace Srt
open PySem PyProof.Rows
section
variable{prog:Program}{w:World}{A:Around}{E:Value->Shared->Prop}{s:Shared}{T:String}{r d:Addr}{n:Nat}{P:Nat->Value->Prop}{OK:Heap->Prop}
theorem iH_{R:Result->Shared->Prop}(K:PySem.W.KdlSrc prog w T r d n P OK)(hh:A.handled=none)(hok:OK s.heap)(hn:n<=sizeLine)
  (h:∀h' tk acc c,(∀b o,s.heap.get? b=some o->h'.get? b=some o)->h'.get? s.heap.objs.size=some {cls:=.type "list",dict:=none,data:=.seq acc c,slots:=#[]}->ItemsOf P acc n->R (.ok (.ret (.ref s.heap.objs.size))) {s with heap:=h',toks:=tk}) :
  codeAny (model prog w) A (.builtin "proto.collect" ⟨[.ref r],[]⟩) R s:=by
 have lt:=K.there _ hok
 refine codeAny_builtin PySem.F.entry_proto_collect ?_
 rw[Around.under_plainId PySem.F.plain_proto_collect _]
 show wpAny _ A.in1 (newList []>>=fun l=>again (.builtin "list.__iadd__" ⟨[l,.ref r],[]⟩)) _ _ s
 refine wpAny_bind (wpAny_newObj_type (wpAny_pure ⟨plainId_quiet PySem.F.plain_list_iadd _,codeAny_builtin PySem.F.entry_list_iadd ?_⟩))
 rw[Around.under_plainId PySem.F.plain_list_iadd _]
 show wpAny _ A.in1 (Builtin.List.listExtendWith (.ref s.heap.objs.size) (.ref r) (.ref s.heap.objs.size)) _ _ _
 exact PySem.W.kdl_extend (R:=R) (s:={s with heap:=s.heap.push {cls:=.type "list",data:=.seq ([]:List Value).toArray}}) K hh (K.keep _ _ hok fun b _ o e=>Heap.get?_push_of_some _ e) s.heap.objs.size (Nat.ne_of_gt lt.1) (Nat.ne_of_gt lt.2) _ 0 (Heap.get?_push_size _ rfl)
  (fun h' tk acc c k hS hacc=>h h' tk acc c (fun b o e=>k b o (Nat.ne_of_lt (Heap.lt_size e)) (Heap.get?_push_of_some _ e)) hS hacc) hn
theorem ha_{Q:List Value->Shared->Prop}(K:PySem.W.KdlSrc prog w T r d n P OK)(hh:A.handled=none)(hok:OK s.heap)(hn:n<=sizeLine)
  (h:∀h' tk acc,(∀b o,s.heap.get? b=some o->h'.get? b=some o)->s.heap.objs.size<h'.objs.size->ItemsOf P acc n->Q acc.toList {s with heap:=h',toks:=tk}):wpAny (model prog w) A (collect (.ref r)) Q E s:=by
 unfold collect
 refine wpAny_bind (wpAny_runValue (iH_ K hh hok hn fun h' tk acc c k hS hacc=>?_))
 show wpAny _ A (load s.heap.objs.size>>=_) _ _ _
 exact wpAny_bind (wpAny_load hS (wpAny_pure (h h' tk acc k (Heap.lt_size hS) hacc)))
theorem gq_{h:Heap}{l:Addr}{vs:List Value}{out:Array Value}{c:Nat}(e:h.get? l=some (seqObj "list" vs.toArray c)) :
  (∃c',(sortedHeap h l vs out).get? l=some (seqObj "list" out c'))/\∀b o,b≠l->h.get? b=some o->(sortedHeap h l vs out).get? b=some o:=by
 unfold sortedHeap
 constructor
 ·exact⟨_,get?_update_seq (Heap.get?_push_of_some _ (Heap.get?_push_of_some _ (get?_update_seq e _))) _⟩
 ·intro b o hb q
  refine(Heap.get?_update_other _ _ (Ne.symm hb)).trans (Heap.get?_push_of_some _ (Heap.get?_push_of_some _ ?_))
  exact(Heap.get?_update_other _ _ (Ne.symm hb)).trans q
theorem ij_{ns:List Int}{Q:Value->Shared->Prop}(K:PySem.W.KdlSrc prog w T r d n P OK)(hh:A.handled=none)(hok:OK s.heap)(hn:n<=sizeLine)(hi:∀acc,ItemsOf P acc n->IntsAre acc.toList ns)
  (h:∀h' tk D c (out:Array Value) (ns':List Int),(∀b o,s.heap.get? b=some o->h'.get? b=some o)->s.heap.objs.size<=D->h'.get? D=some (seqObj "list" out c)->IntsAre out.toList ns'->ns'.Perm ns->Q (.ref D) {s with heap:=h',toks:=tk}) :
  wpAny (model prog w) A (call (.builtin "sorted") [.ref r]) Q E s:=by
 refine Calls.call_function_entry kind_sorted plain_sorted entry_sorted (args_sorted1 _) ?_
 unfold Builtin.«sorted»
 refine wpAny_bind (m:=checkCount "sorted" 1 1 _) (wpAny_pure (wpAny_bind (ha_ K (by exact hh) hok hn fun h1 tk acc k1 z1 hacc=>?_)))
 have hI:=hi acc hacc
 have hz:acc.toList.length<=sizeLine:=by rw[Array.length_toList,hacc.1];exact hn
 refine wpAny_bind (wpAny_newList ?_ (hsz:=hz))
 have at1:(h1.push (seqObj "list" acc.toList.toArray 0)).get? h1.objs.size=some (seqObj "list" acc.toList.toArray 0):=Heap.get?_push_size _ rfl
 refine wpAny_bind (wpAny_holding (wpAny_call_entry slot_list_sort ⟨_,at1,rfl⟩ entry_list_sort (eB_ at1 hI hz fun out ns' a1 a2=>⟨_,rfl,?_⟩) (args_list_sort _)))
 obtain⟨⟨c',g1⟩,g2⟩:=gq_ (out:=out) at1
 refine wpAny_pure ⟨_,rfl,h _ _ _ c' out ns' (fun b o e=>?_) ?_ g1 a1 a2⟩
 ·have e1:=k1 b o e
  exact g2 b o (Nat.ne_of_lt (Heap.lt_size e1)) (Heap.get?_push_of_some _ e1)
 ·exact Nat.le_of_lt z1
end
end Srt
namespace L2
open PySem PySem.Spec PyProof.Rows
theorem kp_{P:Program}{w:World}{vs:List (Key×Value)}{ns:List Int}(hk:vs.map (·.1)=ns.map Sum.inl){acc:Array Value}(h:ItemsOf (fun i v=>∃k x,vs[i]?=some (k,x)/\(A_ P w).is k v=true) acc vs.length):IntsAre acc.toList ns:=by
 have hl:vs.length=ns.length:=by simpa using congrArg List.length hk
 have at_:∀(i:Nat) (v:Value),acc.toList[i]?=some v->∃n t,ns[i]?=some n/\v=Value.int n t:=fun i v e=>by
  obtain⟨k,x,h1,h2⟩:=h.2 i v (by rw[<-Array.getElem?_toList];exact e)
  have h3:(vs.map (·.1))[i]?=some k:=by rw[List.getElem?_map,h1];rfl
  rw[hk,List.getElem?_map] at h3
  cases q:ns[i]? with
  | none=>rw[q] at h3;cases h3
  | some m =>
   rw[q] at h3
   have h4:Sum.inl m=k:=Option.some.inj h3
   subst h4
   have h5:keyIs (Sum.inl m) v=true:=h2
   rcases E_ h5 with⟨i',t,e1,e2⟩ | ⟨y,t,e1,_⟩
   ·cases e1;exact⟨m,t,rfl,e2⟩
   ·cases e1
 have all:∀v:Value,v∈acc.toList->∃n t,v=Value.int n t:=fun v hv=>by
  obtain⟨i,hi⟩:=List.getElem?_of_mem hv
  obtain⟨n,t,_,e⟩:=at_ i v hi
  exact⟨n,t,e⟩
 have hm:=intsAre_map _ all
 have e:acc.toList.map numOf=ns:=by
  apply List.ext_getElem?
  intro i
  rw[List.getElem?_map]
  cases q:acc.toList[i]? with
  | none =>
   have:acc.size<=i:=by simpa using q
   have hs:=h.1
   rw[List.getElem?_eq_none (by lia)]
   rfl
  | some v =>
   obtain⟨n,t,e1,e2⟩:=at_ i v q
   rw[e1,e2]
   rfl
 rw[e] at hm
 exact hm
section
variable{X:Cx}
theorem fQ_(hc:X.calm=true):CallR X (.builtin "sorted") (fun xs H Q=>∃(a:Addr) (kvs:List (Key×V)) (ns:List Int),xs=[.ref a]/\Rd H a (.dK kvs)/\kvs.map (·.1)=ns.map Sum.inl/\
  ∀(l:Addr) (ns':List Int),H l=none->ns'.Perm ns->Q (.ref l) (upd H l (.lst (ns'.map V.int)))):=by
 intro pins s σ H xs us Q I r h
 obtain⟨a,kvs,ns,rfl,e,hk,q⟩:=h
 obtain⟨u,rfl,ru⟩:=vals1 r
 cases ru
 obtain⟨z,hd,vs,rel,o,es,ep,ho,dd⟩:=cv_ I.hok e
 have hkv:vs.map (·.1)=ns.map Sum.inl:=by rw[<-rel.keys];exact hk
 have hl:vs.length=ns.length:=by simpa using congrArg List.length hkv
 refine Srt.ij_ (ns:=ns) (PySem.W.kdl_dict (ep:=ep) (kvs:=vs) (knd:=A_ X.prog X.w) hd) (I.ok.hd hc) ⟨o,es,ho,dd⟩ (by rw[<-rel.length];exact z) (fun acc hacc=>kp_ hkv hacc) fun h' tk D c out ns' k hD hg hI hp=>?_
 have hz:(ns'.map V.int).length<=sizeLine:=by rw[List.length_map,hp.length_eq,<-hl,<-rel.length];exact z
 exact⟨.ref D,_,I.laid (a:=D) (o:=.lst (ns'.map V.int)) (t':=tk) k hD ⟨hz,out.toList,c,eP_ hI,by simpa using hg⟩,rfl,q D ns' (I.hok.fresh hD) hp⟩
end
end L2
namespace PySem
open Sem (wp)
theorem fA_:typeLookup (.type "list") "keys"=pure none:=by rw[typeLookup_type,builtinLookup_eq_fast];kernel_rfl
theorem gJ_{prog:Program}{w:World}{A:Around}{E:Value->Shared->Prop}{s:Shared}{a:Addr}{o:Obj}{xs:Array Value}{k:Nat}{name:Str}{Q:Option Value->Shared->Prop}
  (hx:s.heap.get? a=some o) (hc:o.cls=.type "list") (hdat:o.data=.seq xs k) (hd:o.dict=none) (hmiss:typeLookup (.type "list") name=pure none) (hname:(["__module__","__name__","__qualname__","__doc__","__annotations__"]:List Str).contains name=false) (hA:A.handled=none)
  (h:∀h' tk,(∀b ob,s.heap.get? b=some ob->h'.get? b=some ob)->Q none {s with heap:=h',toks:=tk}) (hsz:name.length+100<=sizeLine:=by size_fits) :
  wpAny (model prog w) A (getAttr? (.ref a) name) Q E s:=by
 obtain⟨c,dct,dat,sl⟩:=o
 simp only at hc hdat hd
 subst hc hdat hd
 obtain⟨hp,g,d,tk,os⟩:=s
 have hT:∀tk',(⟨hp,g,d,tk',os⟩:Shared).TypeIs (.ref a) "list":=fun _=>⟨_,hx,rfl⟩
 have f1:=sub_AttributeError
 have f3:=F.slot_list_getattribute.lookup
 have f4:=F.slot_list_getattribute.bind (.ref a)
 have f5:=am_list_getattr_none
 unfold getAttr? getAttrBy? getAttrBy
 repeat (any_goals (first | assumption | exact hT _ | ((with_reducible show wpAny _ _ (call (Value.builtin "list.__getattribute__") _ _) _ _ _);refine call_meets F.slot_list_getattribute (hT _) am_entry_list_getattribute (F.args_list_getattribute_2 _ _) (meets_getattribute_miss_list a xs k sl name _ hmiss hname hsz) ⟨hx,hA,fun h' tk' e hx'=>?_⟩) | wp_step))
 obtain⟨t',u',he⟩:=hx'.there
 show wpAny _ _ (getattributeRaised _ _ _ _ _ _ _) _ _ _
 unfold getattributeRaised
 repeat (any_goals (first | assumption | wp_step))
 exact h _ _ hx'.keeps
end PySem
namespace PySem
open Sem (wp)
namespace F
theorem entry_dict_update_loop:entryFor table "dict.update.loop"=some Builtin.«dict.update.loop»:=entryFor_of_tree (by kernel_rfl)
theorem plain_dict_update_loop:plainId "dict.update.loop"=true:=by decide +kernel
end F
section
variable{prog:Program}{w:World}{A:Around}{R:Result->Shared->Prop}{I:Addr}{fp wr:List Addr}{G:Array GenState->Array GenState->Prop}{n:Nat}{P:Nat->Value->Prop}{St:Nat->Shared->Prop}
variable{K:Type}[DecidableEq K]{knd:KeyKind prog w K}
theorem iC_(rs:List (K×Value)):(merged [] rs).length<=rs.length:=by
 have gen:∀(rs kvs:List (K×Value)),(merged kvs rs).length<=kvs.length+rs.length:=by
  intro rs
  induction rs with
  | nil=>intro kvs;simp[merged]
  | cons p r ih =>
   intro kvs
   have h:=ih (stored kvs p.1 p.2)
   have h2:(stored kvs p.1 p.2).length<=kvs.length+1:=by
    unfold stored
    split <;> simp
   show(merged (stored kvs p.1 p.2) r).length<=_
   simp only[List.length_cons]
   lia
 simpa using gen rs []
theorem ce_(W:WalksS prog w A.in1 I fp wr G n P St)(S:Addr)(hSf:S∉fp)(res:Value)(rs:List (K×Value))(hn:rs.length=n)(hz:n<=sizeLine)(s0:Shared)
  (hval:∀i v,P i v->∃k x,rs[i]?=some (k,x)/\∀h:Heap,(∀b o,b∉S::wr->s0.heap.get? b=some o->h.get? b=some o)->∃t o c key,v=.ref t/\h.get? t=some o/\o.cls=.type "tuple"/\o.data=.seq #[key,x] c/\knd.is k key=true) :
  ∀(k i:Nat) (tk:Tok) (s:Shared),n-i=k->i<=n->St i s->(∀b o,b∉S::wr->s0.heap.get? b=some o->s.heap.get? b=some o)->
   s.heap.DictOf knd S (merged [] (rs.take i))->
   (∀s',Moved (S::wr) G s s'->s'.heap.DictOf knd S (merged [] rs)->R (.ok (.ret res)) s')->
   codeAny (model prog w) A (.builtin "dict.update.loop" ⟨[.ref S,.ref I,.int (i:Int) tk,res],[]⟩) R s:=by
 have hSw:S∉wr:=fun h=>hSf (W.sub _ h)
 have hsub:∀b∈wr,b∈S::wr:=fun b hb=>List.mem_cons_of_mem _ hb
 intro k
 induction k with
 | zero =>
  intro i tk s hk hi hst h0 hS hR
  have hin:i=n:=by lia
  refine codeAny_builtin F.entry_dict_update_loop ?_
  rw[Around.under_plainId F.plain_dict_update_loop _]
  show wpAny _ A.in1 (pyNext (.ref I)>>=_) _ _ s
  refine wpAny_bind (W.done s _ _ (hin▸hst) fun s' hm=>?_)
  show wpAny _ A.in1 (Builtin.Dict.addKeywords S []>>=fun _=>ret res) _ _ s'
  refine wpAny_bind ?_
  unfold Builtin.Dict.addKeywords
  show wpAny _ A.in1 (pure ()) _ _ s'
  refine wpAny_pure (wpAny_pure (hR s' (hm.mono hsub) ?_))
  rw[hin,List.take_of_length_le (by lia)] at hS
  obtain⟨o,es,ep,ho,rest⟩:=hS
  exact⟨o,es,ep,hm.heap S _ hSw ho,rest⟩
 | succ k ih =>
  intro i tk s hk hi hst h0 hS hR
  have hlt:i<n:=by lia
  refine codeAny_builtin F.entry_dict_update_loop ?_
  rw[Around.under_plainId F.plain_dict_update_loop _]
  show wpAny _ A.in1 (pyNext (.ref I)>>=_) _ _ s
  refine wpAny_bind (W.item i s _ _ hlt hst fun v s' hP hst' hm=>?_)
  have h0':∀b o,b∉S::wr->s0.heap.get? b=some o->s'.heap.get? b=some o:=fun b o hb e=>hm.heap b o (fun z=>hb (hsub b z)) (h0 b o hb e)
  obtain⟨k',x,hr,ht⟩:=hval i v hP
  obtain⟨t,o,c,key,rfl,ho,hc,hd,hkey⟩:=ht s'.heap h0'
  have hS':s'.heap.DictOf knd S (merged [] (rs.take i)):=by
   obtain⟨o,es,ep,ho,rest⟩:=hS
   exact⟨o,es,ep,hm.heap S _ hSw ho,rest⟩
  have hT:s'.TypeIs (.ref t) "tuple":=⟨o,ho,hc⟩
  have hlen:(merged [] (rs.take i)).length<=sizeLine:=by
   have:=iC_ (rs.take i)
   rw[List.length_take] at this
   lia
  refine wpAny_bind (wpAny_holding ?_)
  refine wpAny_bind (wpAny_tryCatch ?_)
  unfold Builtin.Dict.pairItems
  refine wpAny_bind (wpAny_typeOf hT ?_)
  refine wpAny_ite_split (fun _=>?_) (fun hab=>absurd (by decide) hab)
  repeat (any_goals (first | assumption | wp_step))
  rw[hd]
  refine wpAny_pure (wpAny_pure ?_)
  show wpAny _ _ (holding [key,x] (dictSet S key x)) _ _ _
  refine wpAny_holding (wpAny_dictSet_pairs hkey hS' (fun h' hD hsb=>?_) hlen)
  refine wpAny_pure ⟨plainId_quiet F.plain_dict_update_loop _,?_⟩
  have ei:rawInt ((i:Int)+1)=rawInt ((i+1:Nat):Int):=by push_cast;rfl
  rw[ei]
  have other:∀b o,b≠S->s'.heap.get? b=some o->h'.get? b=some o:=fun b o hb e=>(hsb.2 b hb).trans e
  refine ih (i+1) _ _ (by lia) hlt (W.frame _ s' _ _ hst' (Nat.le_succ _) fun b hb o e=>other b o (fun h:b=S=>hSf (by rw[<-h];exact hb)) e)
   (fun b o hb e=>other b o (fun h:b=S=>hb (by rw[h];exact List.mem_cons_self)) (h0' b o hb e)) ?_ fun s'' hm'' hS''=>?_
  ·rw[merged_take_succ [] rs i (k',x) hr]
   exact hD
  ·refine hR s'' (Moved.trans W.gtrans ((hm.mono hsub).then_heap (Nat.le_succ _) fun b o hb e=>?_) hm'') hS''
   exact other b o (fun h:b=S=>hb (by rw[h];exact List.mem_cons_self)) e
end
end PySem
namespace PySem
open Sem (wp)
section
variable{prog:Program}{w:World}{A:Around}{E:Value->Shared->Prop}{s:Shared}
variable{K:Type}[DecidableEq K]{knd:KeyKind prog w K}
theorem dj_{l:Addr}{items:Array Value}{c:Nat}{Q:Value->Shared->Prop}(hh:A.handled=none)(hl:s.heap.get? l=some {cls:=.type "list",data:=.seq items c})(hz:items.size<=sizeLine)(rs:List (K×Value))(hn:rs.length=items.size)
  (hval:∀(i:Nat) v,items[i]?=some v->∃k x,rs[i]?=some (k,x)/\∃t o c key,v=.ref t/\s.heap.get? t=some o/\o.cls=.type "tuple"/\o.data=.seq #[key,x] c/\knd.is k key=true)
  (hQ:∀h' tk,h'.DictOf knd s.heap.objs.size (merged [] rs)->(∀b o,s.heap.get? b=some o->h'.get? b=some o)->Q (.ref s.heap.objs.size) {s with heap:=h',toks:=tk}) :
  wpAny (model prog w) A (call (.type "dict") [.ref l]) Q E s:=by
 refine callType_codes (Q₁:=fun obj s₁=>obj=.ref s.heap.objs.size/\s₁={s with heap:=s.heap.push {cls:=.type "dict",data:=.dict #[]}}) F.kt_called_dict (F.kt_typeCall_dict_1 _) F.entry_dict_init (kt_code_dict_new _ ⟨rfl,rfl⟩) ?_
 rintro obj s₁ ⟨rfl,rfl⟩
 have hnew:(s.heap.push {cls:=.type "dict",data:=.dict #[]}).DictOf knd s.heap.objs.size []:=Heap.DictOf.new s.heap
 have hl1:(s.heap.push {cls:=.type "dict",data:=.dict #[]}).get? l=some {cls:=.type "list",data:=.seq items c}:=Heap.get?_push_of_some _ hl
 have hlS:l<s.heap.objs.size:=Heap.lt_size hl
 refine⟨hnew.typeIs,F.args_dict_init_2 _ _,?_⟩
 unfold Builtin.«dict.__init__»
 refine wpAny_bind ?_
 unfold Builtin.Dict.selfAndRest
 refine wpAny_bind (wpAny_notOrdered_dict hnew.typeIs ?_)
 show wpAny _ _ (pure (s.heap.objs.size,[Value.ref l])) _ _ _
 refine wpAny_pure ?_
 show wpAny _ _ (Builtin.Dict.updateFrom "dict.__init__" s.heap.objs.size (.ref l) [] .none) _ _ _
 unfold Builtin.Dict.updateFrom
 refine wpAny_bind (wpAny_typeOf (T:="list") ⟨_,hl1,rfl⟩ ?_)
 rw[if_pos (by decide)]
 refine wpAny_bind (gJ_ hl1 rfl rfl rfl fA_ (by decide) (by simpa using hh) fun h1 tk1 k1=>?_)
 refine wpAny_ite_split (fun _=>?_) (fun hab=>absurd rfl hab)
 refine wpAny_bind (wpAny_rule ?_)
 have hl2:=k1 _ _ hl1
 refine wpAny_bind (wpAny_pyIter_list ⟨_,hl2,rfl,c,rfl⟩ ?_)
 refine wpAny_pure ⟨plainId_quiet F.plain_dict_update_loop _,?_⟩
 have hd1:(s.heap.push {cls:=.type "dict",data:=.dict #[]}).get? s.heap.objs.size=some {cls:=.type "dict",data:=.dict #[]}:=Heap.get?_push_size _ rfl
 have hd2:=k1 _ _ hd1
 have hz1:s.heap.objs.size<h1.objs.size:=Heap.lt_size hd2
 have lI:l≠h1.objs.size:=Nat.ne_of_lt (Nat.lt_trans hlS hz1)
 have hSf:s.heap.objs.size∉[h1.objs.size,l]:=by
  simp only[List.mem_cons,List.not_mem_nil,or_false,not_or]
  exact⟨Nat.ne_of_lt hz1,Nat.ne_of_gt hlS⟩
 have hh3:A.in1.in1.handled=none:=by simpa using hh
 have W:=(Walks.list (prog:=prog) (w:=w) (A:=A.in1.in1) hh3 h1.objs.size l lI items).toS
 have keep:∀b o,s.heap.get? b=some o->b∉s.heap.objs.size::[h1.objs.size]:=fun b o e z=>by
  have hb:=Heap.lt_size e
  simp only[List.mem_cons,List.not_mem_nil,or_false] at z
  rcases z with z | z
  ·rw[z] at hb;exact Nat.lt_irrefl _ hb
  ·rw[z] at hb;exact Nat.lt_irrefl _ (Nat.lt_trans hb hz1)
 refine ce_ (A:=A.in1) (knd:=knd) W s.heap.objs.size hSf .none rs hn hz s (fun i v hv=>?_) items.size 0 0 _ (by lia) (Nat.zero_le _) ⟨⟨_,Heap.get?_push_size _ rfl,rfl,rfl⟩,⟨_,Heap.get?_push_of_some _ hl2,rfl,c,rfl⟩⟩ (fun b o _ e=>Heap.get?_push_of_some _ (k1 _ _ (Heap.get?_push_of_some _ e))) ?_ fun s' hm hS=>?_
 ·obtain⟨k,x,hr,t,o,c',key,e1,e2,e3,e4,e5⟩:=hval i v hv
  exact⟨k,x,hr,fun h hk=>⟨t,o,c',key,e1,hk t o (keep t o e2) e2,e3,e4,e5⟩⟩
 ·obtain⟨o,es,ep,ho,rest⟩:=hnew
  exact⟨o,es,ep,Heap.get?_push_of_some _ (k1 _ _ ho),rest⟩
 ·rw[Moved.eq_with hm]
  refine⟨rfl,hQ s'.heap s'.toks hS fun b o e=>hm.heap b o (keep b o e) (Heap.get?_push_of_some _ (k1 _ _ (Heap.get?_push_of_some _ e)))⟩
end
end PySem
namespace Me
def look(f:List (Int×Int))(k:Int):Option Int:=(f.find? fun q=>decide (q.1=k)).map (·.2)
def put(f:List (Int×Int))(k v:Int):List (Int×Int) :=
 if (f.any fun p=>decide (p.1=k))=true then f.map (fun p=>if p.1=k then (p.1,v) else p) else f++[(k,v)]
def addTo(f:List (Int×Int))(k n:Int):List (Int×Int):=put f k ((look f k).getD 0+n)
def figs(p:Int×Int)(w:Int)(n:Nat)(acc:List (Int×Int)):List (Int×Int):=(List.range n).foldl (fun acc (d:Nat)=>addTo acc (p.1+(d:Int)*w) p.2) acc
def S_(f:List (Int×Int))(b:Nat)(w:Int):List (Int×Int):=f.foldl (fun acc p=>figs p w b acc) []
def waysW(b:Nat)(ws:List Int):List (Int×Int):=ws.foldl (fun f w=>S_ f b w) [(0,1)]
abbrev keys(f:List (Int×Int)):List Int:=f.map (·.1)
theorem aR_(p:Int×Int)(w:Int)(n:Nat)(acc:List (Int×Int)):figs p w (n+1) acc=addTo (figs p w n acc) (p.1+(n:Int)*w) p.2:=by
 unfold figs
 rw[List.range_succ,List.foldl_append]
 rfl
theorem bm_{f:List (Int×Int)}{b i:Nat}{w:Int}{p:Int×Int}(h:f[i]?=some p):S_ (f.take (i+1)) b w=figs p w b (S_ (f.take i) b w):=by
 unfold S_
 rw[List.take_add_one,h,List.foldl_append]
 rfl
theorem cg_{b i:Nat}{ws:List Int}{w:Int}(h:ws[i]?=some w):waysW b (ws.take (i+1))=S_ (waysW b (ws.take i)) b w:=by
 unfold waysW
 rw[List.take_add_one,h,List.foldl_append]
 rfl
theorem fB_(f:List (Int×Int))(k v:Int):keys (f.map fun p=>if p.1=k then (p.1,v) else p)=keys f:=by
 rw[keys,List.map_map]
 apply List.map_congr_left
 intro p _
 show(if p.1=k then (p.1,v) else p).1=p.1
 split <;> rfl
theorem hT_{f:List (Int×Int)}{k v:Int}:(keys f).Nodup->(keys (put f k v)).Nodup:=by
 intro nd
 unfold put
 split
 ·rw[fB_];exact nd
 ·rename_i h
  have hn:k∉keys f:=fun z=>h (by
   obtain⟨p,hp,e⟩:=List.mem_map.mp z
   exact List.any_eq_true.mpr ⟨p,hp,by simpa using e⟩)
  rw[keys,List.map_append]
  refine List.nodup_append.mpr ⟨nd,by simp,fun a ha b hb=>?_⟩
  have:b=k:=by simpa using hb
  rw[this]
  exact fun z=>hn (z▸ha)
theorem og_{f:List (Int×Int)}{k v lo hi:Int}(h:∀x∈keys f,lo<=x/\x<=hi)(hk:lo<=k/\k<=hi):∀x∈keys (put f k v),lo<=x/\x<=hi:=by
 unfold put
 split
 ·rw[fB_];exact h
 ·intro x hx
  rw[keys,List.map_append] at hx
  rcases List.mem_append.mp hx with hx | hx
  ·exact h x hx
  ·have:x=k:=by simpa using hx
   rw[this];exact hk
structure Ok(f:List (Int×Int))(m:Int):Prop where
 nd:(keys f).Nodup
 bd:∀x∈keys f,-m<=x/\x<=m
theorem Ok.put{f:List (Int×Int)}{m k v:Int}(o:Ok f m)(h : -m<=k/\k<=m):Ok (put f k v) m:=⟨hT_ o.nd,og_ o.bd h⟩
theorem Ok.nil{m:Int}:Ok [] m:=⟨by simp[keys],fun x h=>by simp[keys] at h⟩
theorem cI_{m x w:Int}{d b:Nat}(hx : -m<=x/\x<=m)(hw : -9<=w/\w<=9)(hb:b<=16)(hd:d<b) : -(m+135)<=x+(d:Int)*w/\x+(d:Int)*w<=m+135:=by
 have d0:(0:Int)<=d:=by lia
 have d15:(d:Int)<=15:=by lia
 have a1:(d:Int)*w<=d*9:=Int.mul_le_mul_of_nonneg_left hw.2 d0
 have a2:(d:Int)*(-9)<=d*w:=Int.mul_le_mul_of_nonneg_left hw.1 d0
 lia
theorem eG_{f:List (Int×Int)}{m w:Int}{p:Int×Int}{b:Nat}(hp : -m<=p.1/\p.1<=m)(hw : -9<=w/\w<=9)(hb:b<=16)(o:Ok f (m+135)):∀n,n<=b->Ok (figs p w n f) (m+135)
 | 0,_=>o
 | n+1,h=>by
  rw[aR_]
  exact(eG_ hp hw hb o n (by lia)).put (cI_ hp hw hb (by lia))
theorem aO_{f:List (Int×Int)}{m w:Int}{b:Nat}(o:Ok f m)(hw : -9<=w/\w<=9)(hb:b<=16):∀i,Ok (S_ (f.take i) b w) (m+135)
 | 0=>Ok.nil
 | i+1=>by
  cases h:f[i]? with
  | none =>
   rw[List.take_add_one,h]
   simpa using aO_ o hw hb i
  | some p =>
   rw[bm_ h]
   exact eG_ (o.bd p.1 (List.mem_map.mpr ⟨p,List.mem_of_getElem? h,rfl⟩)) hw hb (aO_ o hw hb i) b (Nat.le_refl _)
theorem gB_{f:List (Int×Int)}{m w:Int}{b:Nat}(o:Ok f m)(hw : -9<=w/\w<=9)(hb:b<=16):Ok (S_ f b w) (m+135):=by
 have:=aO_ o hw hb f.length
 rwa [List.take_length] at this
theorem cH_{b:Nat}{ws:List Int}(hw:∀w∈ws,-9<=w/\w<=9)(hb:b<=16):∀i:Nat,Ok (waysW b (ws.take i)) (135*i)
 | 0 => ⟨by simp[waysW, keys], fun x h => by have : x = 0 := by simpa [waysW, keys] using h
                                             lia⟩
 | i+1=>by
  cases h:ws[i]? with
  | none =>
   rw[List.take_add_one,h]
   have o:=cH_ hw hb i
   simp only[Option.toList_none,List.append_nil]
   exact⟨o.nd,fun x hx=>by have:=o.bd x hx;lia⟩
  | some w =>
   rw[cg_ h]
   have o:=gB_ (cH_ hw hb i) (hw w (List.mem_of_getElem? h)) hb
   have e:(135*((i+1:Nat):Int))=135*(i:Int)+135:=by lia
   rw[e]
   exact o
theorem hh_{b:Nat}{ws:List Int}(hw:∀w∈ws,-9<=w/\w<=9)(hb:b<=16):Ok (waysW b ws) (135*ws.length):=by
 have:=cH_ hw hb ws.length
 rwa [List.take_length] at this
theorem gh_{α:Type}[DecidableEq α]:∀ {l m:List α},l.Nodup->(∀x∈l,x∈m)->l.length<=m.length
 | [],_,_,_=>Nat.zero_le _
 | x::l,m,nd,h=>by
  have hx:=h x (by simp)
  have hn:=(List.nodup_cons.mp nd).1
  have:=gh_ (l:=l) (m:=m.erase x) (List.nodup_cons.mp nd).2 fun y hy=>(List.mem_erase_of_ne (show y≠x from fun e=>hn (by rw[<-e];exact hy))).mpr (h y (List.mem_cons_of_mem _ hy))
  rw[List.length_erase_of_mem hx] at this
  have hp:0<m.length:=List.length_pos_of_mem hx
  simp only[List.length_cons]
  lia
theorem Ok.len{f:List (Int×Int)}{m:Nat}(o:Ok f m):f.length<=2*m+1:=by
 have h:=gh_ (l:=keys f) (m:=(List.range (2*m+1)).map fun(i:Nat)=>(i:Int)-m) o.nd fun x hx=>by
  have:=o.bd x hx
  refine List.mem_map.mpr ⟨(x+m).toNat,List.mem_range.mpr (by lia),by lia⟩
 simpa [keys] using h
theorem am_:∀ {g:List (Int×Int)} {p:Int×Int},(keys g).Nodup->p∈g->look g p.1=some p.2
 | [],_,_,h=>by simp at h
 | q::g,p,nd,h=>by
  have hn:q.1∉keys g:=(List.nodup_cons.mp nd).1
  have nd':=(List.nodup_cons.mp nd).2
  rcases List.mem_cons.mp h with rfl | h
  ·simp[look,List.find?_cons]
  ·have hne:¬ q.1=p.1:=fun e=>hn (by rw[e];exact List.mem_map.mpr ⟨p,h,rfl⟩)
   have:=am_ nd' h
   simpa [look,List.find?_cons,hne] using this
theorem iq_{f:List (Int×Int)}(nd:(keys f).Nodup){ns:List Int}(h:ns.Perm (keys f)):(ns.map fun n=>(n,(look f n).getD 0)).Perm f:=by
 have h1:=h.map fun n=>(n,(look f n).getD 0)
 have e:(keys f).map (fun n=>(n,(look f n).getD 0))=f:=by
  rw[keys,List.map_map]
  conv=>rhs;rw[<-List.map_id f]
  apply List.map_congr_left
  intro p hp
  show(p.1,(look f p.1).getD 0)=p
  rw[am_ nd hp]
  rfl
 rw[e] at h1
 exact h1
theorem nB_{f:List (Int×Int)}{k v:Int}(h:k∉keys f):put f k v=f++[(k,v)]:=by
 unfold put
 rw[if_neg]
 intro z
 obtain⟨p,hp,e⟩:=List.any_eq_true.mp z
 exact h (List.mem_map.mpr ⟨p,hp,by simpa using e⟩)
def hP_(f more:List (Int×Int)):List (Int×Int):=more.foldl (fun acc p=>put acc p.1 p.2) f
theorem fy_:∀(more f:List (Int×Int)),(keys (f++more)).Nodup->hP_ f more=f++more
 | [],f,_=>by simp[hP_]
 | p::r,f,nd=>by
  have hp:p.1∉keys f:=by
   rw[keys,List.map_append] at nd
   have:=(List.nodup_append.mp nd).2.2
   exact fun z=>this p.1 z p.1 (by simp) rfl
  show hP_ (put f p.1 p.2) r=_
  rw[nB_ hp,fy_ r (f++[(p.1,p.2)]) (by simpa using nd)]
  simp
end Me
namespace L2
open PySem PySem.Spec PyProof.Rows
theorem Paired.at{α β:Type}{R:α->β->Prop}{as:List α}{bs:List β}{i:Nat}{a:α}(h:Paired R as bs)(e:as[i]?=some a):∃b,bs[i]?=some b/\R a b:=by
 induction h generalizing i with
 | nil=>simp at e
 | cons r _ ih =>
  cases i with
  | zero=>simp at e;subst e;exact⟨_,rfl,r⟩
  | succ i =>
   obtain⟨b,h1,h2⟩:=ih (i:=i) (by simpa using e)
   exact⟨b,by simpa using h1,h2⟩
theorem iT_:∀ {xs:List V} {us:List Value},xs.length=us.length->(∀(i:Nat) u,us[i]?=some u->∃x,xs[i]?=some x/\RelV x u)->Vals xs us
 | [],[],_,_=>.nil
 | [],_::_,h,_=>by simp at h
 | _::_,[],h,_=>by simp at h
 | x::xs,u::us,h,hv=>by
  obtain⟨y,e,r⟩:=hv 0 u rfl
  simp at e
  subst e
  exact .cons r (iT_ (by simpa using h) fun i v e=>by
   obtain⟨z,e1,r1⟩:=hv (i+1) v (by simpa using e)
   exact⟨z,by simpa using e1,r1⟩)
abbrev bP_(H:Hp)(ts:List Addr)(kvs:List (Key×V)):Prop:=Paired (fun(t:Addr) (p:Key×V)=>H t=some (.tup [kV p.1,p.2])) ts kvs
theorem hI_{P:Program}{w:World}{H:Hp}{h:Heap}(ok:HOk P w H h):∀ {ts:List Addr} {kvs:List (Key×V)} {its:List Value},bP_ H ts kvs->Vals (ts.map V.ref) its->
  ∃rs:List (Key×Value),KV kvs rs/\Paired (fun(u:Value) (r:Key×Value)=>∃t o c key,u=.ref t/\h.get? t=some o/\o.cls=.type "tuple"/\o.data=.seq #[key,r.2] c/\(A_ P w).is r.1 key=true) its rs
 | [],_,_,.nil,r=>by cases r;exact⟨[],.nil,.nil⟩
 | t::ts,p::kvs,its,.cons e hp,r=>by
  cases r with
  | cons r0 rr =>
   cases r0
   obtain⟨rs,a,b⟩:=hI_ ok hp rr
   obtain⟨_,its2,rv,tu⟩:=ok t _ e
   obtain⟨u1,u2,rfl,r1,r2⟩:=rv.two
   obtain⟨o,c,ho,hc,hd⟩:∃o c,h.get? t=some o/\o.cls=.type "tuple"/\o.data=.seq #[u1,u2] c:=by
    obtain⟨o,ho,hc,c,hd⟩:=tu
    exact⟨o,c,ho,hc,hd⟩
   exact⟨(p.1,u2)::rs,.cons ⟨rfl,r2⟩ a,.cons ⟨t,o,c,u1,rfl,ho,hc,hd,fC_ r1⟩ b⟩
section
variable{X:Cx}{o:Expr}{td:TE}
theorem iO_(hc:X.calm=true):CallR X (.type "dict") (fun xs H Q=>∃(l:Addr) (ts:List Addr) (kvs:List (Key×V)),xs=[.ref l]/\H l=some (.lst (ts.map V.ref))/\bP_ H ts kvs/\
  ∀p,H p=none->Q (.ref p) (upd H p (.dK (ak_ [] kvs)))):=by
 intro pins s σ H xs us Q I r h
 obtain⟨l,ts,kvs,rfl,e,hp,q⟩:=h
 obtain⟨u,rfl,ru⟩:=vals1 r
 cases ru
 obtain⟨z,its,n,rv,e1⟩:=I.hok l _ e
 obtain⟨rs,hk,hr⟩:=hI_ I.hok hp rv
 have hlen:rs.length=its.length:=hr.length.symm
 have hz:its.length<=sizeLine:=by rw[<-rv.length];exact z
 refine dj_ (knd:=A_ X.prog X.w) (I.ok.hd hc) e1 (by rw[List.size_toArray];exact hz) rs (by rw[List.size_toArray];exact hlen) (fun i v hv=>?_) fun h' tk dd k=>?_
 ·obtain⟨b,hb,t,o,c,key,x1,x2,x3,x4,x5⟩:=Paired.at (i:=i) (a:=v) hr (by simpa using hv)
  exact⟨b.1,b.2,hb,t,o,c,key,x1,x2,x3,x4,x5⟩
 ·have hm:=ba_ kvs []
  have hkl:=hk.length
  refine⟨.ref _,_,I.laid (a:=s.heap.objs.size) (o:=.dK (ak_ [] kvs)) (t':=tk) k (Nat.le_refl _) (kL_ ?_ (beq_eq_false_iff_ne.mpr (Ne.symm (Nat.ne_of_lt I.big))) (KV.merge hk .nil) dd),rfl,q _ (I.hok.fresh (Nat.le_refl _))⟩
  simp only[List.length_nil] at hm
  lia
theorem iN_(hc:X.calm=true):CallR X (.type "list") (fun xs H Q=>∃(a:Addr) (kvs:List (Key×V)),xs=[.ref a]/\Rd H a (.dK kvs)/\∀p,H p=none->Q (.ref p) (upd H p (.lst (kvs.map fun q=>kV q.1)))):=by
 intro pins s σ H xs us Q I r h
 obtain⟨a,kvs,rfl,e,q⟩:=h
 obtain⟨u,rfl,ru⟩:=vals1 r
 cases ru
 obtain⟨z,hd,vs,rel,o,es,ep,ho,dd⟩:=cv_ I.hok e
 have hl:=rel.length
 refine PySem.W.kdl_call (PySem.W.kdl_dict (ep:=ep) (kvs:=vs) (knd:=A_ X.prog X.w) hd) (I.ok.hd hc) ⟨o,es,ho,dd⟩ (by rw[<-hl];exact z) fun h' tk acc c k hD hacc=>?_
 refine⟨.ref _,_,I.laid (a:=s.heap.objs.size) (o:=.lst (kvs.map fun q=>kV q.1)) (t':=tk) k (Nat.le_refl _) ⟨by rw[List.length_map];exact z,acc.toList,c,iT_ ?_ fun i u hu=>?_,by simpa using hD⟩,rfl,q _ (I.hok.fresh (Nat.le_refl _))⟩
 ·rw[List.length_map,show acc.toList.length=acc.size from Array.length_toList,hacc.1,hl]
 ·obtain⟨k',x,e1,e2⟩:=hacc.2 i u (by simpa using hu)
  have hi:i<kvs.length:=by rw[hl];exact(List.getElem?_eq_some_iff.mp e1).1
  have hk:(kvs[i]).1=k':=by
   obtain⟨u',hu',_⟩:=KV.at rel (i:=i) (p:=kvs[i]) (by simp[hi])
   rw[e1] at hu'
   exact(congrArg Prod.fst (Option.some.inj hu')).symm
  refine⟨kV k',by simp[hi,hk],jI_ e2⟩
end
def intsD(f:List (Int×Int)):List (Key×V):=f.map fun p=>(Sum.inl p.1,V.int p.2)
theorem iU_(f:List (Int×Int))(k:Int):valV (intsD f) (Sum.inl k)=(Me.look f k).map V.int:=by
 induction f with
 | nil=>rfl
 | cons p r ih =>
  by_cases e:p.1=k
  ·have h1:valV (intsD (p::r)) (Sum.inl k)=some (V.int p.2):=X_ (by show Sum.inl p.1=Sum.inl k;rw[e])
   rw[h1]
   simp[Me.look,List.find?_cons,e]
  ·have h1:valV (intsD (p::r)) (Sum.inl k)=valV (intsD r) (Sum.inl k):=Y_ (by intro z;exact e (Sum.inl.inj z))
   rw[h1,ih]
   simp[Me.look,List.find?_cons,e]
section
variable{X:Cx}
end
theorem hC_(f:List (Int×Int))(k v:Int):putK (intsD f) (Sum.inl k) (V.int v)=intsD (Me.put f k v):=by
 have e:((intsD f).any fun kv=>decide (kv.1=Sum.inl k))=f.any fun p=>decide (p.1=k):=by
  rw[intsD,List.any_map]
  congr 1
  funext p
  show decide (Sum.inl p.1=(Sum.inl k:Key))=decide (p.1=k)
  by_cases z:p.1=k
  ·simp[z]
  ·have z':¬ (Sum.inl p.1:Key)=Sum.inl k:=fun q=>z (Sum.inl.inj q)
   simp[z,z']
 unfold putK Me.put
 rw[e]
 split
 ·rw[intsD,List.map_map,intsD,List.map_map]
  apply List.map_congr_left
  intro p _
  show(if (Sum.inl p.1:Key)=Sum.inl k then (Sum.inl p.1,V.int v) else (Sum.inl p.1,V.int p.2))=(Sum.inl (if p.1=k then (p.1,v) else p).1,V.int (if p.1=k then (p.1,v) else p).2)
  by_cases z:p.1=k
  ·rw[if_pos (by rw[z]),if_pos z]
  ·rw[if_neg (fun q=>z (Sum.inl.inj q)),if_neg z]
 ·simp[intsD]
theorem dC_:∀(more f:List (Int×Int)),ak_ (intsD f) (intsD more)=intsD (Me.hP_ f more)
 | [],f=>rfl
 | p::r,f=>by
  show ak_ (putK (intsD f) (Sum.inl p.1) (V.int p.2)) (intsD r)=_
  rw[hC_,dC_ r]
  rfl
section
variable{X:Cx}
theorem bo_(hc:X.calm=true):CallR X (.builtin "sum") (fun xs H Q=>∃(p:Addr) (ns:List Int),xs=[.ref p]/\SqL X.K H p (ns.map V.int)/\Q (.int ns.sum) H):=by
 intro pins s σ H xs us Q I r h
 obtain⟨p,ns,rfl,hq,q⟩:=h
 obtain⟨u,rfl,rx⟩:=vals1 r
 cases rx
 obtain⟨its,rv,pl,hz⟩:=I.list hq
 have hl:=pl.isList
 have hlt:p<s.heap.objs.size:=by obtain⟨_,e,_⟩:=hl;exact Heap.lt_size e
 have hn:its.toArray.size=ns.length:=by rw[List.size_toArray,<-rv.length,List.length_map]
 refine call_sum_walkG (wpAny_pyIter_list hl ?_)
 refine⟨_,_,_,_,_,_,fun i=>(ns[i]?).getD 0,rfl,Walks.list (A:=X.A.in1) (I.ok.hd hc) s.heap.objs.size p (Nat.ne_of_lt hlt) its.toArray,⟨⟨_,Heap.get?_push_size _ rfl,rfl,rfl⟩,hl.push _⟩,fun b hb'=>?_,fun i v hP=>?_,fun h' tk t' hk=>?_⟩
 ·show b<(s.heap.push _).objs.size
  rw[Heap.size_push]
  rcases List.mem_cons.mp hb' with rfl | hb'
  ·exact Nat.lt_succ_self _
  ·have e:b=p:=by simpa using hb'
   rw[e];exact Nat.lt_succ_of_lt hlt
 ·have hv:its[i]?=some v:=by simpa using hP
  cases eb:ns[i]? with
  | none =>
   have:=rv.none_of (i:=i) (by rw[List.getElem?_map,eb];rfl)
   rw[this] at hv;cases hv
  | some b =>
   obtain⟨u,hu,ru⟩:=rv.get (i:=i) (x:=.int b) (by rw[List.getElem?_map,eb];rfl)
   rw[hu] at hv;cases hv
   obtain⟨t,rfl⟩:=ru
   exact⟨t,by simp[eb]⟩
 ·rw[hn,cC_ ns ns.length (Nat.le_refl _),List.take_length]
  exact⟨.int _,H,(show Inv X pins σ H {s with heap:=h',toks:=tk} from seen I hk),⟨_,rfl⟩,q⟩
end
end L2
namespace Hv
open PySem L2
section
variable{P:Program}{w:World}{K:PySem.W.Frag}{mg:Str->Option Value}{base:Heap}
theorem nw_:FnScope ["thing"] ["thing"] (h_ jB_):=⟨rfl,rfl,rfl,by decide +kernel,rfl,by decide +kernel,by decide +kernel⟩
theorem lE_{f:Addr}{fd:FuncData}(F:Fun K "is_whole" "is_whole" jB_ f fd)(T:Txt mg):FnOk P w K mg base CX0 1 f fd ["thing"] dP_:=by
 refine F.ok nw_ (fun vs H Q E h=>?_) (fun cdv A outer s H vs Q E hr h=>?_)
 ·obtain⟨v,rfl,_⟩:=h;rfl
 ·obtain⟨v,rfl,ty,k⟩:=h
  refine⟨_,g_ (q_ (bY_ (o_ aG_ (by rfl) T.isi boot_isinstance (a_ (pv 0) (a_ (ep_ T.int boot_int) d_)))
   (cr_ (mI_ (o_ aG_ (by rfl) T.isi boot_isinstance (a_ (pv 0) (a_ (ep_ T.bool boot_bool) d_))))))),?_⟩
  cases ty with
  | non=>exact⟨_,rfl,_,_,_,_,rfl,.non,mR_,false,rfl,iteF k⟩
  | bl b=>exact⟨_,rfl,_,_,_,_,rfl,.bl b,mU_,true,rfl,iteT ⟨_,rfl,_,_,_,_,rfl,.bl b,mV_,true,rfl,k⟩⟩
  | int i=>exact⟨_,rfl,_,_,_,_,rfl,.int i,kn_,true,rfl,iteT ⟨_,rfl,_,_,_,_,rfl,.int i,ko_,false,rfl,k⟩⟩
  | str x=>exact⟨_,rfl,_,_,_,_,rfl,.str x,mQ_,false,rfl,iteF k⟩
  | lst e=>exact⟨_,rfl,_,_,_,_,rfl,.lst e,mS_,false,rfl,iteF k⟩
  | tup e=>exact⟨_,rfl,_,_,_,_,rfl,.tup e,mP_,false,rfl,iteF k⟩
  | dK e=>exact⟨_,rfl,_,_,_,_,rfl,.dK e,mT_,false,rfl,iteF k⟩
theorem oG_:FnScope ["thing","least","greatest"] ["thing","least","greatest"] (h_ sBetw):=⟨rfl,rfl,rfl,by decide +kernel,rfl,by decide +kernel,by decide +kernel⟩
theorem nT_{f:Addr}{fd:FuncData}(F:Fun K "is_between" "is_between" sBetw f fd)(D1:Def P w K mg base 1 "is_whole" ["thing"] dP_):FnOk P w K mg base CX0 2 f fd ["thing","least","greatest"] cO_:=by
 refine F.ok oG_ (fun vs H Q E h=>?_) (fun cdv A outer s H vs Q E hr h=>?_)
 ·obtain⟨v,lo,hi,rfl,_⟩:=h;rfl
 ·obtain⟨v,lo,hi,rfl,ty,k⟩:=h
  refine⟨_,g_ (q_ (bY_ (p_ D1 hr (by rfl) (a_ (pv 0) d_)) (cr_ (hH_ cu_ cu_ (pv 1) (pv 0) (pv 2))))),?_⟩
  refine⟨_,rfl,v,rfl,ty,_,rfl,?_⟩
  cases v with
  | int i =>
   refine iteT ?_
   refine⟨_,rfl,_,rfl,_,_,rfl,rfl,_,rfl,?_⟩
   by_cases h1:lo<=i
   ·rw[decide_eq_true h1]
    refine iteT ⟨_,rfl,_,_,rfl,rfl,?_⟩
    have e:betw (.int i) lo hi=decide (i<=hi):=by simp[betw,h1]
    rw[e] at k
    exact k
   ·rw[decide_eq_false h1]
    refine iteF ?_
    have e:betw (.int i) lo hi=false:=by simp[betw,h1]
    rw[e] at k
    exact k
  | _=>exact iteF k
theorem nx_:FnScope ["thing","least","greatest"] ["thing","least","greatest"] (h_ hy_):=⟨rfl,rfl,rfl,by decide +kernel,rfl,by decide +kernel,by decide +kernel⟩
theorem lJ_{f:Addr}{fd:FuncData}(F:Fun K "is_list_between" "is_list_between" hy_ f fd)(T:Txt mg)(D2:Def P w K mg base 2 "is_between" ["thing","least","greatest"] cO_):FnOk P w K mg base CX0 3 f fd ["thing","least","greatest"] gn_:=by
 refine F.ok nx_ (fun vs H Q E h=>?_) (fun cdv A outer s H vs Q E hr h=>?_)
 ·obtain⟨a,xs,lo,hi,rfl,_⟩:=h;rfl
 ·obtain⟨a,xs,lo,hi,rfl,ha,hlen,hth,k⟩:=h
  refine⟨_,g_ (q_ (bY_ (o_ aG_ (by rfl) T.isi boot_isinstance (a_ (pv 0) (a_ (ep_ T.list boot_list) d_)))
   (cr_ (o_ (mm_ rfl) (by rfl) T.all boot_all (a_
    (aZ_ (h_ hy_) ["thing","least","greatest"] ["least","greatest"] [1,2] rfl (J_ (pv 0)) (fun cl C s H fp=>av_) (fun cl C s H fp=>p_ D2 hr (by rfl) (a_ (pv 0) (a_ (pv 1) (a_ (pv 2) d_)))) (by decide +kernel)) d_))))),?_⟩
  refine⟨_,rfl,_,_,_,_,rfl,.lst ha,pe_,true,rfl,iteT ?_⟩
  refine⟨_,rfl,a,rfl,⟨_,SqL.of ha⟩,aj_ (K:=K) (a:=a) (xs:=xs) (fun i ys H2=>ys=((xs.take i).map fun x=>V.bl (betw x lo hi))/\Same H H2) ⟨by simp,Same.refl _⟩ (fun i ys H2 _ p=>SqL.of (p.2 _ _ ha)) ?_ ?_⟩
  ·rintro i x ys H2 hx ⟨rfl,s2⟩
   have hil:i<xs.length:=(List.getElem?_eq_some_iff.mp hx).1
   refine⟨szl (by rw[List.length_map,List.length_take];lia),?_⟩
   refine⟨_,rfl,_,rfl,_,rfl,x,lo,hi,rfl,(hth x (List.mem_of_getElem? hx)).keep s2,?_,s2⟩
   rw[List.take_add_one,hx]
   simp
  ·rintro ys H2 ⟨rfl,s2⟩ D hD
   refine⟨D,xs.map fun x=>betw x lo hi,rfl,SqL.of ?_,?_⟩
   ·rw[c_,List.take_length,List.map_map]
    rfl
   ·have e:(xs.map fun x=>betw x lo hi).all id=xs.all fun x=>betw x lo hi:=by rw[List.all_map];rfl
    rw[e]
    exact k _ (B_ s2 (s2.free hD))
theorem jz_:FnScope ["thing"] ["thing"] (h_ ee_):=⟨rfl,rfl,rfl,by decide +kernel,rfl,by decide +kernel,by decide +kernel⟩
theorem iw_{f:Addr}{fd:FuncData}(F:Fun K "is_frame" "is_frame" ee_ f fd)(T:Txt mg)(D2:Def P w K mg base 2 "is_between" ["thing","least","greatest"] cO_)(D3:Def P w K mg base 3 "is_list_between" ["thing","least","greatest"] gn_) :
  FnOk P w K mg base CX0 4 f fd ["thing"] cM_:=by
 refine F.ok jz_ (fun vs H Q E h=>?_) (fun cdv A outer s H vs Q E hr h=>?_)
 ·obtain⟨g,a,c,b,ps,ws,rfl,_⟩:=h;rfl
 ·obtain⟨g,a,c,b,ps,ws,rfl,G,k⟩:=h
  have ok:=G.ok
  have hsum:=ok.sum
  refine⟨_,b_ (W_ (PW.pt (do_ (aK_ (aB_ (o_ aG_ (by rfl) T.isi boot_isinstance (a_ (pv 0) (a_ (ep_ T.tuple boot_tuple) d_))))) (bW_ (z_ nK_ (lenS T.len (by rfl) (pv 0)) e_ (nomark _))))) (g_ (q_ cY_)) w_)
   (b_ (W_ (aK_ (aB_ (p_ D2 hr.mo (by rfl) (a_ (ixt (pv 0) e_) (a_ e_ (a_ e_ d_)))))) (g_ (q_ cY_)) w_)
   (b_ (W_ (PW.pt (do_ (aK_ (aB_ (p_ D3 hr (by rfl) (a_ (ixt (pv 0) e_) (a_ e_ (a_ e_ d_)))))) (bW_ (aK_ (cB_ cu_ cu_ e_ (lenS T.len (by rfl) (ixt (pv 0) e_)) e_))))) (g_ (q_ cY_)) w_)
   (g_ (q_ (bY_ (p_ D3 hr (by rfl) (a_ (ixt (pv 0) e_) (a_ (eo_ bR_ e_) (a_ e_ d_))))
    (cr_ (aw_ cl_ (lenS T.len (by rfl) (ixt (pv 0) e_)) (o_ (bo_ rfl) (by rfl) T.sum boot_sum (a_ (ixt (pv 0) e_) d_)) (nomark _)))))))),?_⟩
  refine⟨_,rfl,_,_,_,_,rfl,.tup G.tp,pd_,true,rfl,iteF ?_⟩
  refine⟨_,rfl,g,_,rfl,.inr (SqT.of G.tp),rfl,_,rfl,iteNS rfl ?_⟩
  refine⟨_,rfl,_,_,_,_,rfl,rfl,SqT.of G.tp,rfl,⟨.int b,2,16,rfl,.int _,_,rfl,?_⟩⟩
  have e1:betw (.int b) 2 16=true:=by
   have h1:=ok.b2
   have h2:=ok.b16
   simp only[betw,Bool.and_eq_true,decide_eq_true_eq]
   lia
  rw[e1]
  refine iteF ?_
  refine⟨_,rfl,_,_,_,_,rfl,rfl,SqT.of G.tp,rfl,⟨a,_,1,6,rfl,G.hp,(by simp[natV];have:=ok.l4;lia),gd_ ps,fun H1 s1=>⟨_,rfl,?_⟩⟩⟩
  have e2:((natV ps).all fun x=>betw x 1 6)=true:=ld_ (lo:=1) (hi:=6) ok.pr
  rw[e2]
  refine iteF ?_
  refine⟨_,rfl,_,_,_,_,rfl,rfl,SqT.of (s1 _ _ G.tp),rfl,⟨a,_,rfl,.inl (SqL.of (s1 _ _ G.hp)),_,_,rfl,rfl,_,rfl,?_⟩⟩
  have e3:((natV ps).length:Int)=ps.length:=by simp[natV]
  have l2:=ok.l2
  have l4:=ok.l4
  refine ite2 (fun _=>?_) (fun h=>absurd (decide_eq_true (by lia)) h)
  refine⟨_,_,rfl,rfl,_,rfl,?_⟩
  refine iteNS (by lia) ?_
  refine⟨_,rfl,_,_,_,_,rfl,rfl,SqT.of (s1 _ _ G.tp),rfl,⟨_,rfl,⟨c,_,-9,9,rfl,s1 _ _ G.hw,(by rw[List.length_map,ok.wl];lia),ge_ ws,fun H2 s2=>⟨_,rfl,?_⟩⟩⟩⟩
  have e4:((ws.map V.int).all fun x=>betw x (-9) 9)=true:=le_ ok.wr
  rw[e4]
  refine iteT ?_
  have G2:=(G.keep s1).keep s2
  refine⟨_,rfl,_,_,_,_,rfl,rfl,SqT.of G2.tp,rfl,⟨c,_,rfl,.inl (SqL.of G2.hw),?_⟩⟩
  refine⟨_,rfl,_,_,_,_,rfl,rfl,SqT.of G2.tp,rfl,⟨a,ps.map fun(p:Nat)=>(p:Int),rfl,SqL.of (by rw[<-gM_];exact G2.hp),rfl,?_⟩⟩
  ·have e5:decide (V.int ((ws.map V.int).length:Int)=V.int (ps.map fun(p:Nat)=>(p:Int)).sum)=true:=by
    rw[decide_eq_true_eq,Ma.dN_,List.length_map,ok.wl]
   rw[e5]
   exact k H2 (s1.trans s2)
theorem gs_:FnScope ["thing"] ["thing"] (h_ cj_):=⟨rfl,rfl,rfl,by decide +kernel,rfl,by decide +kernel,by decide +kernel⟩
theorem fq_{f:Addr}{fd:FuncData}(F:Fun K "need_frame" "need_frame" cj_ f fd)(D4:Def P w K mg base 4 "is_frame" ["thing"] cM_):FnOk P w K mg base CX0 5 f fd ["thing"] af_:=by
 refine F.ok gs_ (fun vs H Q E h=>?_) (fun cdv A outer s H vs Q E hr h=>?_)
 ·obtain⟨g,a,c,b,ps,ws,rfl,_⟩:=h;rfl
 ·obtain⟨g,a,c,b,ps,ws,rfl,G,k⟩:=h
  refine⟨_,g_ (W_ (aK_ (aB_ (p_ D4 hr (by rfl) (a_ (pv 0) d_)))) aM_ w_),?_⟩
  exact⟨_,rfl,g,a,c,b,ps,ws,rfl,G,fun H1 s1=>⟨_,rfl,iteF (k H1 s1)⟩⟩
theorem bU_:FnScope ["frame","many","place"] ["frame"] (h_ ef_):=⟨rfl,rfl,rfl,by decide +kernel,rfl,by decide +kernel,by decide +kernel⟩
theorem ix_{f:Addr}{fd:FuncData}(F:Fun K "how_many" "how_many" ef_ f fd)(T:Txt mg)(D5:Def P w K mg base 5 "need_frame" ["thing"] af_):FnOk P w K mg base CX0 6 f fd ["frame"] N_:=by
 refine F.ok bU_ (fun vs H Q E h=>?_) (fun cdv A outer s H vs Q E hr h=>?_)
 ·obtain⟨g,a,c,b,ps,ws,rfl,_⟩:=h;rfl
 ·obtain⟨g,a,c,b,ps,ws,rfl,G,k⟩:=h
  have ok:=G.ok
  have hsum:=ok.sum
  refine⟨_,b_ (I_ (p_ D5 hr (by rfl) (a_ (pv 0) d_)))
   (b_ (i_ (i:=1) bU_.nd rfl (Or.inl rfl) e_)
   (b_ (C_ PassesOwn.never rfl (y_ (by rfl) T.range (a_ (lenS T.len (by rfl) (ixt (pv 0) e_)) d_)) (j_ (i:=2) bU_.nd rfl (Or.inl rfl))
    (g_ (i_ (i:=1) bU_.nd rfl (Or.inl rfl) (m_ H_ (pv 1) (ixt (pv 0) e_)))))
   (g_ (q_ (pv 1))))),?_⟩
  refine⟨_,rfl,g,a,c,b,ps,ws,rfl,G,fun H1 s1=>?_⟩
  have G1:=G.keep s1
  refine⟨_,rfl,_,_,_,_,rfl,rfl,SqT.of G1.tp,rfl,⟨c,_,rfl,.inl (SqL.of G1.hw),_,rfl,(by rw[List.length_map,ok.wl];lia),(by rw[List.length_map,ok.wl];lia),?_⟩⟩
  have en:((ws.map V.int).length:Int).toNat=ps.sum:=by rw[List.length_map,ok.wl];lia
  rw[en]
  refine D_ (n:=ps.sum) (fun i σ H2=>H2=H1/\∃v,σ=[some (.ref g),some (.int ((b ^ i:Nat):Int)),v]) ⟨rfl,none,rfl⟩ ?_ ?_
  ·rintro i σ H2 hi ⟨rfl,v,rfl⟩
   refine⟨_,rfl,_,rfl,_,_,_,_,rfl,rfl,SqT.of G1.tp,rfl,⟨_,_,rfl,rfl,.inr ⟨by have:=ok.b16;lia,by have:=ok.b16;lia⟩,rfl,some (.int (0+(i:Int))),?_⟩⟩
   rw[Nat.pow_succ]
   push_cast
   rfl
  ·rintro σ H2 ⟨rfl,v,rfl⟩
   exact⟨_,rfl,k _ s1⟩
theorem fc_:FnScope ["frame","thing"] ["frame","thing"] (h_ bJ_):=⟨rfl,rfl,rfl,by decide +kernel,rfl,by decide +kernel,by decide +kernel⟩
theorem er_{f:Addr}{fd:FuncData}(F:Fun K "need_number" "need_number" bJ_ f fd)(D2:Def P w K mg base 2 "is_between" ["thing","least","greatest"] cO_)(D6:Def P w K mg base 6 "how_many" ["frame"] N_) :
  FnOk P w K mg base CX0 7 f fd ["frame","thing"] bi_:=by
 refine F.ok fc_ (fun vs H Q E h=>?_) (fun cdv A outer s H vs Q E hr h=>?_)
 ·obtain⟨g,a,c,b,ps,ws,n,rfl,_⟩:=h;rfl
 ·obtain⟨g,a,c,b,ps,ws,n,rfl,G,hn,k⟩:=h
  refine⟨_,g_ (W_ (aK_ (aB_ (p_ D2 hr.mo (by rfl) (a_ (pv 1) (a_ e_ (a_ (m_ R_ (p_ D6 hr (by rfl) (a_ (pv 0) d_)) e_) d_)))))) aM_ w_),?_⟩
  refine⟨_,rfl,_,rfl,g,a,c,b,ps,ws,rfl,G,fun H1 s1=>⟨_,_,rfl,rfl,.int n,0,_,rfl,.int _,_,rfl,?_⟩⟩
  have e:betw (.int (n:Int)) 0 (((b ^ ps.sum:Nat):Int)-1)=true:=by
   simp only[betw,Bool.and_eq_true,decide_eq_true_eq]
   lia
  rw[e]
  exact iteF (k H1 s1)
theorem aq_:FnScope ["frame","n","figures","rest","place"] ["frame","n"] (h_ ck_):=⟨rfl,rfl,rfl,by decide +kernel,rfl,by decide +kernel,by decide +kernel⟩
theorem fr_{f:Addr}{fd:FuncData}(F:Fun K "figures_of" "figures_of" ck_ f fd)(T:Txt mg)(D5:Def P w K mg base 5 "need_frame" ["thing"] af_)(D7:Def P w K mg base 7 "need_number" ["frame","thing"] bi_) :
  FnOk P w K mg base CX0 8 f fd ["frame","n"] ai_:=by
 refine F.ok aq_ (fun vs H Q E h=>?_) (fun cdv A outer s H vs Q E hr h=>?_)
 ·obtain⟨g,a,c,b,ps,ws,n,rfl,_⟩:=h;rfl
 ·obtain⟨g,a,c,b,ps,ws,n,rfl,G,hn,k⟩:=h
  have ok:=G.ok
  have hsum:=ok.sum
  have b2:=ok.b2
  have b16:=ok.b16
  refine⟨_,b_ (I_ (p_ D5 hr.mo (by rfl) (a_ (pv 0) d_)))
   (b_ (I_ (p_ D7 hr (by rfl) (a_ (pv 0) (a_ (pv 1) d_))))
   (b_ (i_ (i:=2) aq_.nd rfl (Or.inl rfl) (s_ d_))
   (b_ (i_ (i:=3) aq_.nd rfl (Or.inl rfl) (pv 1))
   (b_ (C_ PassesOwn.never rfl (y_ (by rfl) T.range (a_ (lenS T.len (by rfl) (ixt (pv 0) e_)) d_)) (j_ (i:=4) aq_.nd rfl (Or.inl rfl))
    (b_ (I_ (cX_ PySem.F.plainAttrs_list PySem.F.slot_list_append PySem.F.type_list_append T_ (pv 2) (a_ (m_ aN_ (pv 3) (ixt (pv 0) e_)) d_)))
    (g_ (i_ (i:=3) aq_.nd rfl (Or.inl rfl) (m_ eq_ (pv 3) (ixt (pv 0) e_))))))
   (g_ (q_ (nG_ rfl T.list T.rev (by rfl) (by rfl) (pv 2)))))))),?_⟩
  refine⟨_,rfl,g,a,c,b,ps,ws,rfl,G,fun H1 s1=>?_⟩
  have G1:=G.keep s1
  refine⟨_,rfl,_,rfl,g,a,c,b,ps,ws,n,rfl,G1,hn,fun H2 s2=>?_⟩
  have G2:=G1.keep s2
  refine⟨sz (by decide),fun l hl=>?_⟩
  have s3:Same H2 (upd H2 l (.lst [])):=f_ hl
  have G3:=G2.keep s3
  refine⟨_,rfl,_,rfl,_,_,_,_,rfl,rfl,SqT.of G3.tp,rfl,⟨c,_,rfl,.inl (SqL.of G3.hw),_,rfl,(by rw[List.length_map,ok.wl];lia),(by rw[List.length_map,ok.wl];lia),?_⟩⟩
  have en:((ws.map V.int).length:Int).toNat=ps.sum:=by rw[List.length_map,ok.wl];lia
  rw[en]
  refine D_ (n:=ps.sum) (fun i σ H4=>∃v,σ=[some (.ref g),some (.int n),some (.ref l),some (.int ((n / b ^ i:Nat):Int)),v]/\Same H2 H4/\H4 l=some (.lst (natV (Ma.ups b n i)))) ⟨none,(by rw[Nat.pow_zero,Nat.div_one];rfl),s3,c_⟩ ?_ ?_
  ·rintro i σ H4 hi ⟨v,rfl,s4,h4⟩
   have G4:=G2.keep s4
   refine⟨_,rfl,.inl ⟨rfl,_,SqL.of h4⟩,_,rfl,_,rfl,_,_,_,_,rfl,rfl,SqT.of G4.tp,rfl,⟨_,_,rfl,rfl,(by show(0:Int)<b;lia),l,_,_,rfl,rfl,h4,szl (by simp[natV,Ma.iW_];lia),?_⟩⟩
   have s5:Same H2 (upd H4 l (.lst (natV (Ma.ups b n i)++[V.int (((n / b ^ i:Nat):Int) % (b:Int))]))):=B_ s4 hl
   refine⟨_,rfl,_,rfl,_,_,_,_,rfl,rfl,SqT.of (G2.keep s5).tp,rfl,⟨_,_,rfl,rfl,⟨by show(0:Int)<b;lia,by show(b:Int)<1073741824;lia⟩,some (.int (0+(i:Int))),?_,s5,?_⟩⟩
   ·rw[<-Ma.na_]
    push_cast
    rfl
   ·rw[c_,Ma.hj_]
    simp[natV]
  ·rintro σ H4 ⟨v,rfl,s4,h4⟩
   refine⟨_,rfl,l,_,rfl,SqL.of h4,fun r hr'=>?_⟩
   refine k r _ ?_ ((s1.trans s2).trans (B_ s4 (s4.free hr'))) ?_
   ·exact(s1.trans (s2.trans s4)).free hr'
   ·rw[c_,<-Ma.iV_]
    simp[natV]
end
abbrev dI_(H:Hp)(qs:List Addr)(rows:List (List Int)):Prop:=Paired (fun q row=>H q=some (.lst (row.map V.int))) qs rows
theorem dI_.keepOn{H H':Hp}{qs:List Addr}{rows:List (List Int)}(s:∀b∈qs,∀row:List Int,H b=some (.lst (row.map V.int))->H' b=some (.lst (row.map V.int)))(h:dI_ H qs rows):dI_ H' qs rows:=by
 induction h with
 | nil=>exact .nil
 | cons h _ ih=>exact .cons (s _ (by simp) _ h) (ih fun b hb=>s b (List.mem_cons_of_mem _ hb))
theorem lx_{F:Addr->List Int->Prop}{qs:List Addr}{rows:List (List Int)}{i:Nat}{q:Addr}(h:Paired F qs rows)(e:qs[i]?=some q):∃row,rows[i]?=some row/\F q row:=Paired.at h e
def spCut:Sp:=fun vs H Q _=>∃f a c b ps ws,∃(r:Addr) (xs:List Int),vs=[.ref f,.ref r]/\FrAt H f a c b ps ws/\H r=some (.lst (xs.map V.int))/\
 ∀p qs H',Same H H'->H' p=some (.lst (qs.map V.ref))->dI_ H' qs (Ma.cuts ps xs)->Q (.ref p) H'
def jo_:Sp:=fun vs H Q _=>∃f a c b ps ws,∃n:Nat,vs=[.ref f,.int n]/\FrAt H f a c b ps ws/\n<b ^ ps.sum/\
 ∀r H',H r=none->Same H H'->H' r=some (.lst ((Ma.psums ps (Ma.wts b n ps.sum ws)).map V.int))->Q (.ref r) H'
theorem gY_{xs:List V}{i k:Nat}:cutV xs (some (i:Int)) (some ((i:Int)+(k:Int)))=(xs.drop i).take k:=by
 have e:(i:Int)+(k:Int)=((i+k:Nat):Int):=by lia
 unfold cutV
 rw[e,HT.ed_,HT.ed_]
 rcases Nat.le_total i xs.length with h | h
 ·rw[Nat.min_eq_left h]
  rcases Nat.le_total (i+k) xs.length with h2 | h2
  ·rw[Nat.min_eq_left h2,Nat.add_sub_cancel_left]
  ·rw[Nat.min_eq_right h2,List.take_of_length_le (by rw[List.length_drop];lia),List.take_of_length_le (by rw[List.length_drop];lia)]
 ·rw[Nat.min_eq_right h,List.drop_of_length_le (Nat.le_refl _),List.drop_of_length_le h]
  simp
section
variable{P:Program}{w:World}{K:PySem.W.Frag}{mg:Str->Option Value}{base:Heap}
theorem scCut:FnScope ["frame","row","pieces","start","length"] ["frame","row"] (h_ sCut):=⟨rfl,rfl,rfl,by decide +kernel,rfl,by decide +kernel,by decide +kernel⟩
theorem oU_{f:Addr}{fd:FuncData}(F:Fun K "cut_by_parts" "cut_by_parts" sCut f fd):FnOk P w K mg base CX0 1 f fd ["frame","row"] spCut:=by
 refine F.ok scCut (fun vs H Q E h=>?_) (fun cdv A outer s H vs Q E hr h=>?_)
 ·obtain⟨g,a,c,b,ps,ws,r,xs,rfl,_⟩:=h;rfl
 ·obtain⟨g,a,c,b,ps,ws,r,xs,rfl,G,hrow,k⟩:=h
  have nd:=scCut.nd
  have l4:=G.ok.l4
  refine⟨_,b_ (i_ (i:=2) nd rfl (Or.inl rfl) (s_ d_))
   (b_ (i_ (i:=3) nd rfl (Or.inl rfl) e_)
   (b_ (C_ PassesOwn.never rfl (J_ (ixt (pv 0) e_)) (j_ (i:=4) nd rfl (Or.inl rfl))
    (b_ (I_ (cX_ PySem.F.plainAttrs_list PySem.F.slot_list_append PySem.F.type_list_append T_ (pv 2) (a_ (aD_ bI_ (pv 1) (au_ (pv 3)) (au_ (m_ r_ (pv 3) (pv 4)))) d_)))
    (g_ (i_ (i:=3) nd rfl (Or.inl rfl) (m_ r_ (pv 3) (pv 4))))))
   (g_ (q_ (pv 2))))),?_⟩
  refine⟨sz (by decide),fun p hp=>?_⟩
  have s1:Same H (upd H p (.lst [])):=f_ hp
  have G1:=G.keep s1
  refine⟨_,rfl,_,_,_,_,rfl,rfl,SqT.of G1.tp,rfl,a,rfl,⟨_,SqL.of G1.hp⟩,Z_ (K:=K) (a:=a) (xs:=natV ps) (fun i σ H2=>∃(qs:List Addr) (v4:Option V),σ=[some (.ref g),some (.ref r),some (.ref p),some (.int (((ps.take i).sum:Nat):Int)),v4]/\
   Same H H2/\H2 p=some (.lst (qs.map V.ref))/\qs.length=i/\dI_ H2 qs ((Ma.cuts ps xs).take i)) ⟨[],none,rfl,s1,c_,rfl,.nil⟩ (fun i σ H2 _ h=>by obtain⟨_,_,_,s2,_⟩:=h;exact SqL.of (s2 _ _ G.hp)) ?_ ?_⟩
  ·rintro i x σ H2 hx ⟨qs,v4,rfl,s2,hp2,hl2,rows⟩
   have hi:i<ps.length:=by
    have:=(List.getElem?_eq_some_iff.mp hx).1
    simpa [natV] using this
   have e:ps[i]?=some ps[i]:=by simp[hi]
   have ex:x=V.int ((ps[i]:Nat):Int):=by
    have:(natV ps)[i]?=some (V.int ((ps[i]:Nat):Int)):=by simp[natV,hi]
    rw[this] at hx
    exact(Option.some.inj hx).symm
   subst ex
   have pr:p≠r:=Ne.symm (k_ hrow hp)
   refine⟨_,rfl,.inl ⟨rfl,_,SqL.of hp2⟩,_,rfl,_,rfl,_,rfl,_,rfl,_,rfl,_,_,rfl,rfl,_,rfl,r,_,rfl,SqL.of (s2 _ _ hrow),fun q hq=>?_⟩
   have pq:p≠q:=k_ hp2 hq
   refine⟨p,_,_,rfl,rfl,(by rw[l_ pq];exact hp2),szl (by rw[List.length_map];lia),?_⟩
   refine⟨_,rfl,_,rfl,_,_,rfl,rfl,qs++[q],some (.int ((ps[i]:Nat):Int)),?_,B_ (B_ s2 (s2.free hq)) hp,?_,by simp[hl2],?_⟩
   ·rw[List.take_add_one,e,List.sum_append]
    show[some (V.ref g),some (.ref r),some (.ref p),some (.int (((ps.take i).sum:Nat)+((ps[i]:Nat):Int))),_]=_
    simp
   ·rw[c_];simp
   ·rw[List.take_add_one,Ma.aF_ ps xs i ps[i] e]
    refine Paired.snoc (dI_.keepOn (H:=H2) (fun bb hb row z=>?_) rows) ?_
    ·have bp:bb≠p:=pb_ z hp2 (by
      intro e
      have e':row.map V.int=qs.map V.ref:=by injection e
      have m1:V.ref bb∈row.map V.int:=by rw[e'];exact List.mem_map.mpr ⟨bb,hb,rfl⟩
      obtain⟨_,_,m2⟩:=List.mem_map.mp m1
      cases m2)
     rw[l_ bp,l_ (k_ z hq)]
     exact z
    ·rw[l_ pq.symm,c_,gY_,<-List.map_drop,<-List.map_take]
  ·rintro σ H2 ⟨qs,v4,rfl,s2,hp2,hl2,rows⟩
   refine⟨_,rfl,k p qs H2 s2 hp2 ?_⟩
   have e:(natV ps).length=(Ma.cuts ps xs).length:=by rw[Ma.ah_];simp[natV]
   rw[e,List.take_length] at rows
   exact rows
end
theorem iM_{X:Cx}(K:PySem.W.Frag)(hK:X.K=K)(hc:X.calm=true):CallR X (.builtin "sum") (fun xs H Q=>∃(p:Addr) (ns:List Int),xs=[.ref p]/\SqL K H p (ns.map V.int)/\Q (.int ns.sum) H):=by
 subst hK
 exact bo_ hc
section
variable{P:Program}{w:World}{K:PySem.W.Frag}{mg:Str->Option Value}{base:Heap}
theorem dt_:FnScope ["frame","n","figures","weighted"] ["frame","n"] (h_ aJ_):=⟨rfl,rfl,rfl,by decide +kernel,rfl,by decide +kernel,by decide +kernel⟩
theorem gF_{f:Addr}{fd:FuncData}(F:Fun K "part_sums" "part_sums" aJ_ f fd)(T:Txt mg)(D8:Def P w K mg base 8 "figures_of" ["frame","n"] ai_)(DC:Def P w K mg base 1 "cut_by_parts" ["frame","row"] spCut):FnOk P w K mg base CX0 9 f fd ["frame","n"] jo_:=by
 refine F.ok dt_ (fun vs H Q E h=>?_) (fun cdv A outer s H vs Q E hr h=>?_)
 ·obtain⟨g,a,c,b,ps,ws,n,rfl,_⟩:=h;rfl
 ·obtain⟨g,a,c,b,ps,ws,n,rfl,G,hn,k⟩:=h
  have nd:=dt_.nd
  have ok:=G.ok
  have hsum:=ok.sum
  have b2:=ok.b2
  have b16:=ok.b16
  have l4:=ok.l4
  have nd2:List.Nodup (["figure","weight"]:List Str):=by decide +kernel
  have hsmall:=Ma.eL_ (n:=n) (L:=ps.sum) (by lia:0<b) b16 ok.wr
  refine⟨_,b_ (i_ (i:=2) nd rfl (Or.inl rfl) (p_ D8 hr (by rfl) (a_ (pv 0) (a_ (pv 1) d_))))
   (b_ (gx_ (i:=3) (N:=["figure","weight"]) (k:=2) (fr:=[]) nd rfl (Or.inl rfl) (cmpS (sc:=h_ aJ_) (NX:=["frame","n","figures","weighted"]) (k:=2) (fr:=[]) rfl rfl (by decide +kernel))
    (cmpF (sc:=h_ aJ_) (NX:=["frame","n","figures","weighted"]) rfl (by decide +kernel)) rfl (jQ_ (by rfl) T.zip (pv 2) (ixt (pv 0) e_))
    (fun cl C s H fp=>en_ K rfl rfl (n_ (j_ (i:=0) nd2 rfl (Or.inl rfl)) (n_ (j_ (i:=1) nd2 rfl (Or.inl rfl)) P_))) hV_ (fun cl C s H fp=>av_) (fun cl C s H fp=>m_ H_ (pv 0) (pv 1)) (by rfl))
   (g_ (q_ (aZ_ (h_ aJ_) ["frame","n","figures","weighted"] [] [] rfl (J_ (p_ DC hr.mo (by rfl) (a_ (pv 0) (a_ (pv 3) d_)))) (fun cl C s H fp=>av_)
    (fun cl C s H fp=>o_ (iM_ K rfl rfl) (by rfl) T.sum boot_sum (a_ (pv 0) d_)) (by decide +kernel))))),?_⟩
  refine⟨_,rfl,_,rfl,g,a,c,b,ps,ws,n,rfl,G,hn,fun r H1 hr1 s1 h1=>?_⟩
  have G1:=G.keep s1
  refine⟨_,rfl,_,rfl,_,_,_,_,rfl,rfl,SqT.of G1.tp,rfl,r,c,rfl,rfl,⟨_,SqL.of h1⟩,⟨_,SqL.of G1.hw⟩,ia_ (K:=K) (a:=r) (b:=c) (xs:=natV (Ma.dws b n ps.sum ps.sum)) (ys:=ws.map V.int)
   (fun i zs H'=>zs=((Ma.wts b n ps.sum ws).take i).map V.int/\Same H1 H') (by simp[natV,Ma.M_,ok.wl]) ⟨by simp,Same.refl _⟩ (fun i zs H' _ p=>⟨SqL.of (p.2 _ _ h1),SqL.of (p.2 _ _ G1.hw)⟩)
   (fun i zs H' hi p=>szl (by rw[p.1,List.length_map,List.length_take];simp[natV,Ma.M_] at hi;lia)) ?_ ?_⟩
  ·rintro i x y zs H' t hx hy ⟨rfl,s2⟩ ht
   obtain⟨d,hd,rfl⟩:∃d:Nat,(Ma.dws b n ps.sum ps.sum)[i]?=some d/\x=.int d:=by
    rw[natV,List.getElem?_map] at hx
    cases e:(Ma.dws b n ps.sum ps.sum)[i]? with
    | none=>rw[e] at hx;cases hx
    | some d=>rw[e] at hx;exact⟨d,rfl,(Option.some.inj hx).symm⟩
   obtain⟨x,hw,rfl⟩:∃x:Int,ws[i]?=some x/\y=.int x:=by
    rw[List.getElem?_map] at hy
    cases e:ws[i]? with
    | none=>rw[e] at hy;cases hy
    | some d=>rw[e] at hy;exact⟨d,rfl,(Option.some.inj hy).symm⟩
   have hx9:=ok.wr x (List.mem_of_getElem? hw)
   refine⟨t,_,rfl,SqT.of c_,rfl,_,_,rfl,_,_,rfl,rfl,_,rfl,_,rfl,_,_,rfl,rfl,.inr ⟨by lia,by lia⟩,?_,B_ s2 (s2.free ht)⟩
   rw[List.take_add_one,Ma.iQ_ hd hw]
   simp
  rintro zs H' ⟨rfl,s2⟩ wl hwl
  have e1:(natV (Ma.dws b n ps.sum ps.sum)).length=(Ma.wts b n ps.sum ws).length:=by rw[Ma.fY_ _ _ _ _ ok.wl];simp[natV,Ma.M_]
  rw[e1,List.take_length]
  have s3:Same H1 (upd H' wl (.lst ((Ma.wts b n ps.sum ws).map V.int))):=B_ s2 (s2.free hwl)
  have G3:=G1.keep s3
  refine⟨_,rfl,_,rfl,g,a,c,b,ps,ws,wl,Ma.wts b n ps.sum ws,rfl,G3,c_,fun pl qs H4 s4 hpl rows=>⟨pl,rfl,⟨_,SqL.of hpl⟩,aj_ (K:=K) (a:=pl) (xs:=qs.map V.ref)
   (fun i ys H5=>ys=((Ma.psums ps (Ma.wts b n ps.sum ws)).take i).map V.int/\H4=H5) ⟨by simp,rfl⟩ (fun i ys H5 _ p=>by rw[<-p.2];exact SqL.of hpl) ?_ ?_⟩⟩
  ·rintro i x ys H5 hx ⟨rfl,rfl⟩
   obtain⟨q,hq,rfl⟩:∃q,qs[i]?=some q/\x=.ref q:=by
    rw[List.getElem?_map] at hx
    cases e:qs[i]? with
    | none=>rw[e] at hx;cases hx
    | some d=>rw[e] at hx;exact⟨d,rfl,(Option.some.inj hx).symm⟩
   obtain⟨row,hrow,hq4⟩:=lx_ rows hq
   have hm:=List.mem_of_getElem? hrow
   have hlen:=Paired.length rows
   have hil:=(List.getElem?_eq_some_iff.mp hq).1
   rw[Ma.ah_] at hlen
   refine⟨szl (by rw[List.length_map,List.length_take];lia),_,rfl,q,row,rfl,SqL.of hq4,?_,rfl⟩
   ·have e:(Ma.psums ps (Ma.wts b n ps.sum ws))[i]?=some row.sum:=by unfold Ma.psums;rw[List.getElem?_map,hrow];rfl
    rw[List.take_add_one,e]
    simp
  ·rintro ys H5 ⟨rfl,rfl⟩ r2 hr2
   have hlen:=Paired.length rows
   have e:(qs.map V.ref).length=(Ma.psums ps (Ma.wts b n ps.sum ws)).length:=by rw[Ma.aL_,List.length_map,hlen,Ma.ah_]
   rw[e,List.take_length]
   have S:=(s1.trans s3).trans s4
   exact k r2 _ (S.free hr2) (B_ S (S.free hr2)) c_
end
def spread(zs:List Int):Int:=Ma.maxL zs-Ma.minL zs
abbrev ao_(b n:Nat)(ps:List Nat)(ws:List Int):List Int:=Ma.psums ps (Ma.wts b n ps.sum ws)
theorem bS_{b n:Nat}{ps:List Nat}{ws:List Int}(ok:FrOk b ps ws):0<(ao_ b n ps ws).length:=by
 have:=ok.l2
 rw[Ma.aL_];omega
def aY_:Sp:=fun vs H Q _=>∃f a c b ps ws,∃n:Nat,vs=[.ref f,.int n]/\FrAt H f a c b ps ws/\n<b ^ ps.sum/\∀H',Same H H'->Q (.int (spread (ao_ b n ps ws))) H'
section
variable{P:Program}{w:World}{K:PySem.W.Frag}{mg:Str->Option Value}{base:Heap}
theorem dv_:FnScope ["frame","n","totals"] ["frame","n"] (h_ cU_):=⟨rfl,rfl,rfl,by decide +kernel,rfl,by decide +kernel,by decide +kernel⟩
theorem ke_{f:Addr}{fd:FuncData}(F:Fun K "misses_by" "misses_by" cU_ f fd)(T:Txt mg)(DP:Def P w K mg base 9 "part_sums" ["frame","n"] jo_):FnOk P w K mg base CX0 10 f fd ["frame","n"] aY_:=by
 refine F.ok dv_ (fun vs H Q E h=>?_) (fun cdv A outer s H vs Q E hr h=>?_)
 ·obtain⟨g,a,c,b,ps,ws,n,rfl,_⟩:=h;rfl
 ·obtain⟨g,a,c,b,ps,ws,n,rfl,G,hn,k⟩:=h
  refine⟨_,b_ (i_ (i:=2) dv_.nd rfl (Or.inl rfl) (p_ DP hr (by rfl) (a_ (pv 0) (a_ (pv 1) d_))))
   (g_ (q_ (m_ R_ (o_ (bq_ rfl) (by rfl) T.max boot_max (a_ (pv 2) d_)) (o_ (aU_ rfl) (by rfl) T.min boot_min (a_ (pv 2) d_))))),?_⟩
  refine⟨_,rfl,_,rfl,g,a,c,b,ps,ws,n,rfl,G,hn,fun r H1 _ s1 h1=>?_⟩
  exact⟨_,rfl,r,_,rfl,SqL.of h1,bS_ G.ok,_,rfl,r,_,rfl,SqL.of h1,bS_ G.ok,_,_,rfl,rfl,k H1 s1⟩
end
end Hv
namespace L2
open PySem PySem.Spec PyProof.Rows
theorem bC_{al:Type}(xs:List al):∀n,n<=xs.length->(((List.range n).map fun(k:Nat)=>xs.length-1-k).filterMap fun i=>xs[i]?)=xs.reverse.take n
 | 0,_=>by simp
 | n+1,h=>by
  rw[List.range_succ,List.map_append,List.filterMap_append,bC_ xs n (by lia),List.take_add_one,List.getElem?_reverse (by lia)]
  have e:xs[xs.length-1-n]?=some (xs[xs.length-1-n]'(by lia)):=by simp
  simp[e]
theorem jJ_{al:Type}(xs:List al):(((List.range xs.length).map fun(k:Nat)=>xs.length-1-k).filterMap fun i=>xs[i]?)=xs.reverse:=by
 rw[bC_ xs xs.length (Nat.le_refl _),List.take_of_length_le (by simp)]
theorem dW_(its:List Value):slicePick its.toArray none none (some (-1))=its.reverse.toArray:=by
 unfold slicePick
 rw[<-jJ_ its]
 congr 1
 have e:sliceRange (sliceBounds none none (some (-1)) its.toArray.size).1 (sliceBounds none none (some (-1)) its.toArray.size).2.1 (sliceBounds none none (some (-1)) its.toArray.size).2.2=(List.range its.length).map fun(k:Nat)=>its.length-1-k:=by
  have e1:sliceBounds none none (some (-1)) its.toArray.size=((its.length:Int)-1,-1,-1):=by simp[sliceBounds]
  rw[e1]
  unfold sliceRange
  have e2:(if (-1:Int)>0 then (if ((its.length:Int)-1) < -1 then (-1-((its.length:Int)-1) + -1-1) / -1 else 0) else (if ((its.length:Int)-1) > -1 then (((its.length:Int)-1) - -1 - -1-1) / (-(-1)) else 0)).toNat=its.length:=by
   rw[if_neg (by decide)]
   split
   ·rw[show(-(-1):Int)=1 by decide,Int.ediv_one];lia
   ·lia
  show List.map _ (List.range (Int.toNat _))=_
  rw[e2]
  refine List.map_congr_left fun k hk=>?_
  have:=List.mem_range.mp hk
  show((its.length:Int)-1 + -1*(k:Int)).toNat=_
  lia
 rw[e]
 simp only[List.getElem?_toArray]
section
variable{X:Cx}{e st:Expr}{te ts:TE}{pos p2:Pos}{tg:Expr}
def tSRev(K:PySem.W.Frag)(te ts:TE):TE:=fun σ H Q=>te σ H fun x H1=>ts σ H1 fun y H2=>y=.int (-1)/\∃a xs,x=.ref a/\SqL K H2 a xs/\∀p,H2 p=none->Q (.ref p) (upd H2 p (.lst xs.reverse))
theorem Vals.rev{xs:List V}{its:List Value}(r:Vals xs its):Vals xs.reverse its.reverse:=by
 induction r with
 | nil=>exact .nil
 | cons h _ ih=>rw[List.reverse_cons,List.reverse_cons];exact Paired.snoc ih h
theorem gy_(he:PE X e te)(hs:PE X st ts):PE X (.Subscript e (.Slice none none (some st) p2) pos) (tSRev X.K te ts):=by
 intro pins s σ H Q I h
 refine Subscript_ (thn (he pins s σ H _ I h) fun v s1 ⟨x,H1,I1,r1,q1⟩=>?_)
 refine wpAny_Slice ?_
 rw[evalPart_none]
 refine wpAny_pure (wpAny_pure ?_)
 rw[evalPart_some]
 refine thn (hs pins s1 σ H1 _ I1 q1) fun vs s3 ⟨y,H3,I3,r3,q3⟩=>?_
 obtain⟨rfl,a,xs,rfl,hx,q⟩:=q3
 obtain⟨t,rfl⟩:=r3
 cases r1
 have I4:Inv X pins σ H3 {s3 with heap:=s3.heap.push {cls:=.type "slice",data:=.fields #[.none,.none,.int (-1) t]}}:=I3.kept (t':=s3.toks) fun b ob q=>Heap.get?_push_of_some _ q
 obtain⟨its,r,ht,hz⟩:=I4.list hx
 have hlen:=r.length
 have hg:wpAny (model X.prog X.w) X.A (getItem (.ref a) (.ref s3.heap.objs.size)) (EP X pins σ Q) X.xe {s3 with heap:=s3.heap.push {cls:=.type "slice",data:=.fields #[.none,.none,.int (-1) t]}}:=by
  refine wpAny_getItem_list_slice ht.isList (Heap.IsSliceOf.new ..) .none .none (.int (-1) t) (by simp) ?_ (by rw[List.size_toArray] <;> lia)
  rw[dW_]
  refine⟨.ref _,_,I4.laid (t':=s3.toks) (o:=.lst xs.reverse) (fun b ob q=>Heap.get?_push_of_some _ q) (Nat.le_refl _) ?_,rfl,q _ (I4.hok.fresh (Nat.le_refl _))⟩
  exact⟨by rw[List.length_reverse];exact hz,_,0,Vals.rev r,Heap.get?_push_size _ rfl⟩
 show wpAny (model X.prog X.w) X.A (subscriptTail e (.Slice none none (some st) p2) (.ref a) (.ref s3.heap.objs.size)) (EP X pins σ Q) X.xe {s3 with heap:=s3.heap.push {cls:=.type "slice",data:=.fields #[.none,.none,.int (-1) t]}}
 exact tail_any (ops:=[.ref a,.ref s3.heap.objs.size]) ht.isList.typeIs slot_list_getitem.lookup hg (by with_unfolding_all rfl)
theorem jb_{P:Program}{w:World}{K:PySem.W.Frag}{tg:Expr}(it:Addr)(lo:Int)(n:Nat):Turn P w K tg (Itr lo n) [it] it (fun i h=>IsLongIter h it (lo+(i:Nat)*1) ((n:Int)-(i:Nat)) 1) where
 mem:=by simp
 obj:=fun i h st b hb=>by
  have e:b=it:=by simpa using hb
  subst e
  exact⟨_,st,fun v z=>by
   have z':Data.fields _=Data.cell v:=z
   cases z'⟩
 keep:=fun i h h' st k=>k it (by simp) _ st
 item:=by
  intro X hP hw hK hc i pins s σ H E I hf st hg
  subst hP hw hK
  obtain⟨f0,f1,f2,f3,f4,f5⟩:=hf it (by simp)
  have W:=Walks.longrange (prog:=X.prog) (w:=X.w) (I.ok.hd hc) it lo 1 n
  refine W.item i s _ _ hg st fun v h' tk hv st' kk=>?_
  obtain⟨t,rfl⟩:=hv
  have I1:Inv X pins σ H {s with heap:=h',toks:=tk}:=I.turned (fun b o hb e=>kk b o (by simpa using hb) e) f0 f1 f3 f4 f5
  refine⟨_,rfl,ma_ (s:={s with heap:=h',toks:=tk}) (n:="longrange_iterator") st' rfl rfl (by decide) ⟨.int (lo+i),H,I1,⟨t,?_⟩,⟨rfl,rfl⟩,st',fun b hb=>(hf b hb).1⟩⟩
  rw[Int.mul_one]
 done:=by
  intro X hP hw hK hc i pins s σ H E I hf st hg
  subst hP hw hK
  obtain⟨f0,f1,f2,f3,f4,f5⟩:=hf it (by simp)
  exact wpAny_pyNext_long_end (I.ok.hd hc) st (by have:n<=i:=hg;lia) fun h' eb=>⟨rfl,I.turned (t':=s.toks) (fun b o hb e=>eb b o hb e) f0 f1 f3 f4 f5⟩
 self:=fun _ _ _ _ _ st h=>wpAny_pyIter_longiter st h
theorem jK_{pins:List (Addr×Obj)}{σ:St}{H:Hp}{s:Shared}{R:It->Hp->Prop}{E:Value->Shared->Prop}{lo hi:Int}{t u v:Tok}{tk:Nat}(I:Inv X pins σ H s)
  (q:R (Itr lo (hi-lo).toNat) H):wpAny (model X.prog X.w) X.A (pyIter (.ref s.heap.objs.size)) (PIE X pins σ tg R) E {s with heap:=s.heap.push {cls:=.type "range",data:=.fields #[.int lo t,.int hi u,.int 1 v]},toks:=tk}:=by
 have I1:Inv X pins σ H {s with heap:=s.heap.push {cls:=.type "range",data:=.fields #[.int lo t,.int hi u,.int 1 v]},toks:=tk}:=I.kept fun b o e=>Heap.get?_push_of_some _ e
 cases hsm:Builtin.Range.small lo hi 1 with
 | true =>
  refine wpAny_pyIter_range (IsRange.new ..) hsm ?_
  refine⟨(s.heap.push {cls:=.type "range",data:=.fields #[.int lo t,.int hi u,.int 1 v]}).objs.size,[(s.heap.push {cls:=.type "range",data:=.fields #[.int lo t,.int hi u,.int 1 v]}).objs.size],_,_,H,rfl,
   I1.kept (t':=tk) fun b o e=>Heap.get?_push_of_some _ e,dp_ _ lo (hi-lo).toNat,?_,fun b hb=>?_,q⟩
  ·have e1:lo+((0:Nat):Int)*1=lo:=by simp
   have e2:(((hi-lo).toNat:Nat):Int)-((0:Nat):Int)=Builtin.Range.rangeSize lo hi 1:=by rw[rangeSize_one];split <;> lia
   show IsRangeIter _ _ (lo+((0:Nat):Int)*1) ((((hi-lo).toNat:Nat):Int)-((0:Nat):Int)) 1
   rw[e1,e2]
   exact Heap.get?_push_size _ rfl
  ·have e:b=(s.heap.push {cls:=.type "range",data:=.fields #[.int lo t,.int hi u,.int 1 v]}).objs.size:=by simpa using hb
   subst e
   exact I1.fpOk (Nat.le_refl _) (I1.hok.fresh (Nat.le_refl _))
 | false =>
  refine wpAny_pyIter_longrange (IsRange.new ..) hsm ?_
  refine⟨(s.heap.push {cls:=.type "range",data:=.fields #[.int lo t,.int hi u,.int 1 v]}).objs.size,[(s.heap.push {cls:=.type "range",data:=.fields #[.int lo t,.int hi u,.int 1 v]}).objs.size],_,_,H,rfl,
   I1.kept (t':=tk) fun b o e=>Heap.get?_push_of_some _ e,jb_ _ lo (hi-lo).toNat,?_,fun b hb=>?_,q⟩
  ·have e1:lo+((0:Nat):Int)*1=lo:=by simp
   have e2:(((hi-lo).toNat:Nat):Int)-((0:Nat):Int)=Builtin.Range.rangeSize lo hi 1:=by rw[rangeSize_one];split <;> lia
   show IsLongIter _ _ (lo+((0:Nat):Int)*1) ((((hi-lo).toNat:Nat):Int)-((0:Nat):Int)) 1
   rw[e1,e2]
   exact Heap.get?_push_size _ rfl
  ·have e:b=(s.heap.push {cls:=.type "range",data:=.fields #[.int lo t,.int hi u,.int 1 v]}).objs.size:=by simpa using hb
   subst e
   exact I1.fpOk (Nat.le_refl _) (I1.hok.fresh (Nat.le_refl _))
def iRngA(ta:TA):TI:=fun σ H R=>ta σ H fun vs H1=>∃i j:Int,vs=[.int i,.int j]/\R (Itr i (j-i).toNat) H1
theorem jR_{a b:Expr}{ta:TA}{p pos:Pos}(hg:Gl X "range")(hm:X.mg "range"=none)(ha:PA X [a,b] ta)(hs:starEach [a,b] X.env=[(false,eval a X.env),(false,eval b X.env)]:=by rfl)(hs2:starEach [b] X.env=[(false,eval b X.env)]:=by rfl) :
  PI X tg (.Call (.Name "range" p) [a,b] [] pos) (iRngA ta):=by
 intro pins s σ H R I h
 refine Call_ (aP_ I hg hm boot_range (PyProof.Rows.callWith_type1 (thn (ha pos pins s σ H _ I h) fun us s1 ⟨vs,H1,I1,r1,q1⟩=>?_) (by rw[hs,hs2]) (by rw[hs2];rfl)))
 obtain⟨i,j,e,q⟩:=q1
 subst e
 cases r1 with
 | cons r rr =>
  cases rr with
  | cons r' rr =>
   cases rr
   obtain⟨t,rfl⟩:=r
   obtain⟨t',rfl⟩:=r'
   exact call_range_2 (jK_ I1 q)
end
end L2
namespace Hv
open PySem L2
theorem mW_{c A B:Prop}[Decidable c](h1:A)(h2:B):if c then A else B:=ite2 (fun _=>h1) fun _=>h2
theorem gQ_{c A:Prop}[Decidable c]{nx:St->Hp->Prop}{σ:St}{H:Hp}(Good:St->Hp->Prop)(h:∀ σ H,Good σ H->nx σ H)(hA:(∀ σ H,Good σ H->nx σ H)->A)(hB:Good σ H):if c then A else nx σ H:=mW_ (hA h) (h _ _ hB)
theorem kT_{xs:List V}{k:Nat}:cutV xs none (some (k:Int))=xs.take k:=by
 unfold cutV
 rw[HT.hz_,HT.ed_,List.drop_zero,Nat.sub_zero]
 rcases Nat.le_total k xs.length with h | h
 ·rw[Nat.min_eq_left h]
 ·rw[Nat.min_eq_right h,List.take_of_length_le (Nat.le_refl _),List.take_of_length_le h]
theorem cm_{ns:List Int}{i:Int}{Pr:Int->Prop}(h0:0<=i)(h1:i<ns.length)(h:∀n∈ns,Pr n):∃n,atI (ns.map V.int) i=some (.int n)/\Pr n:=by
 obtain⟨v,e,n,rfl,hn⟩:=ne_ (xs:=ns.map V.int) (Pr:=fun v=>∃n,v=.int n/\Pr n) h0 (by rw[List.length_map];exact h1) (fun x hx=>by
  obtain⟨n,hn,rfl⟩:=List.mem_map.mp hx
  exact⟨n,rfl,h n hn⟩)
 exact⟨n,e,hn⟩
theorem ny_{n x:Nat}:(List.replicate n [V.int (x:Int)]).flatten=natV (List.replicate n x):=by
 induction n with
 | zero=>rfl
 | succ n ih=>rw[List.replicate_succ,List.flatten_cons,ih,List.replicate_succ];rfl
theorem lR_{ps:List Nat}(h:∀p∈ps,1<=p/\p<=6):∀n∈ps.map fun(p:Nat)=>(p:Int),-1000000000<=n/\n<=1000000000:=fun n hn=>by
 obtain⟨p,hp,rfl⟩:=List.mem_map.mp hn
 have:=h p hp
 lia
theorem b01(k:Bool):CMul j (if k=true then 1 else 0):=.inr (by cases k <;> decide)
def Store(H:Hp)(s:Addr):Prop:=∃g c k:Int,H s=some (.lst [.int g,.int c,.int k])
theorem Store.keep{H H':Hp}{s:Addr}(h:Store H s)(t:Same H H'):Store H' s:=let ⟨g,c,k,e⟩:=h;⟨g,c,k,t _ _ e⟩
theorem Store.off{H:Hp}{s l:Addr}(h:Store H s)(e:H l=none):l≠s:=fun z=>by
 obtain⟨g,c,k,q⟩:=h
 rw[z,q] at e;cases e
theorem Store.off1{H:Hp}{s l:Addr}(h:Store H s)(e:H l=none):l∉[s]:=fun z=>h.off e (by simpa using z)
theorem Store.upd{H:Hp}{s l:Addr}{o:HO}(h:Store H s)(n:l≠s):Store (L2.upd H l o) s:=let ⟨g,c,k,e⟩:=h;⟨g,c,k,by rw[l_ n.symm];exact e⟩
def jr_(K:PySem.W.Frag):Sp:=fun vs H Q _=>∃(a:Addr) (ns:List Int) (k:Nat),vs=[.ref a,.int k]/\SqL K H a (ns.map V.int)/\k<=1000/\∀c:Int,Q (.int c) H
def gj_:Sp:=fun vs H Q _=>∃c:Int,vs=[.int c]/\∀s H',H s=none->Same H H'->Store H' s->Q (.ref s) H'
def dr_:Sp:=fun vs H Q _=>∃(s:Addr) (m:Int),vs=[.ref s,.int m]/\Store H s/\0<m/\m<1073741824/\∀(r:Int) (H':Hp),0<=r->r<m->Store H' s->Kp [s] H H'->Q (.int r) H'
def go_:Sp:=fun vs H Q _=>∃(s:Addr) (L:Int),vs=[.ref s,.int L]/\Store H s/\1<=L/\L<=6/\
 ∀f a c b ps ws H',Store H' s->Kp [s] H H'->FrAt H' f a c b ps ws->H f=none->H a=none->H c=none->Q (.ref f) H'
section
variable{P:Program}{w:World}{K:PySem.W.Frag}{mg:Str->Option Value}{base:Heap}
theorem oF_:FnScope ["script","k"] ["script","k"] (h_ sCell):=⟨rfl,rfl,rfl,by decide +kernel,rfl,by decide +kernel,by decide +kernel⟩
theorem nS_{f:Addr}{fd:FuncData}(F:Fun K "_law_cell" "_law_cell" sCell f fd)(T:Txt mg):FnOk P w K mg base CX0 1 f fd ["script","k"] (jr_ K):=by
 refine F.ok oF_ (fun vs H Q E h=>?_) (fun cdv A outer s H vs Q E hr h=>?_)
 ·obtain⟨a,ns,j,rfl,_⟩:=h;rfl
 ·obtain⟨a,ns,j,rfl,hS,hj,k⟩:=h
  refine⟨_,b_ (W_ (z_ gA_ (pv 1) (lenS T.len (by rfl) (pv 0)) (nomark _)) (g_ (q_ (ixl (pv 0) (pv 1)))) w_)
   (g_ (q_ (m_ r_ (m_ r_ (m_ H_ (m_ H_ e_ (pv 1)) (pv 1)) (m_ H_ e_ (pv 1))) e_))),?_⟩
  refine⟨_,rfl,_,rfl,a,_,rfl,.inl hS,_,_,rfl,rfl,_,rfl,ite2 (fun h=>?_) (fun _=>?_)⟩
  ·have h':j<ns.length:=by
    have:=of_decide_eq_true h
    rw[List.length_map] at this
    lia
   exact⟨_,rfl,_,rfl,a,_,_,_,rfl,rfl,hS,V_ (v:=V.int ns[j]) (by simp[h']),k _⟩
  ·exact⟨_,rfl,_,_,rfl,rfl,.inl ⟨by decide,by decide⟩,_,rfl,_,_,rfl,rfl,.inr ⟨by lia,by lia⟩,_,rfl,_,_,rfl,rfl,.inl ⟨by decide,by decide⟩,_,_,rfl,rfl,_,_,rfl,rfl,k _⟩
theorem gr_:FnScope ["cell","great"] ["cell"] (h_ jC_):=⟨rfl,rfl,rfl,by decide +kernel,rfl,by decide +kernel,by decide +kernel⟩
theorem lG_{f:Addr}{fd:FuncData}(F:Fun K "_law_store" "_law_store" jC_ f fd):FnOk P w K mg base CX0 1 f fd ["cell"] gj_:=by
 refine F.ok gr_ (fun vs H Q E h=>?_) (fun cdv A outer s H vs Q E hr h=>?_)
 ·obtain⟨c,rfl,_⟩:=h;rfl
 ·obtain⟨c,rfl,k⟩:=h
  refine⟨_,b_ (i_ (i:=1) gr_.nd rfl (Or.inl rfl) e_)
   (b_ (W_ (z_ lD_ (pv 0) (m_ fm_ e_ e_) (nomark _)) (g_ (i_ (i:=1) gr_.nd rfl (Or.inl rfl) (pv 0))) w_)
   (g_ (q_ (s_ (a_ (pv 1) (a_ (m_ aN_ (pv 0) e_) (a_ e_ d_))))))),?_⟩
  refine⟨_,rfl,_,_,rfl,rfl,⟨by decide,by decide,by decide⟩,_,_,rfl,rfl,_,rfl,?_⟩
  refine gQ_ (fun σ H'=>H=H'/\∃g:Int,σ=[some (.int c),some (.int g)]) ?_ (fun hT=>⟨_,rfl,hT _ _ ⟨rfl,_,rfl⟩⟩) ⟨rfl,_,rfl⟩
  rintro σ H' ⟨rfl,g,rfl⟩
  exact⟨_,rfl,_,rfl,_,_,rfl,rfl,(by show(0:Int)<2147483629;decide),sz (by simp),fun l hl=>k l _ hl (f_ hl) ⟨_,_,_,c_⟩⟩
theorem mz_:FnScope ["store","many","told","one"] ["store","many"] (h_ sTake):=⟨rfl,rfl,rfl,by decide +kernel,rfl,by decide +kernel,by decide +kernel⟩
theorem nN_{f:Addr}{fd:FuncData}(F:Fun K "_law_take" "_law_take" sTake f fd):FnOk P w K mg base CX0 1 f fd ["store","many"] dr_:=by
 refine F.ok mz_ (fun vs H Q E h=>?_) (fun cdv A outer s H vs Q E hr h=>?_)
 ·obtain⟨s,m,rfl,_⟩:=h;rfl
 ·obtain⟨q,m,rfl,⟨g,c,j,hc⟩,m0,m1,k⟩:=h
  have nd:=mz_.nd
  refine⟨_,b_ (W_ (z_ ir_ (ixl (pv 0) e_) e_ (nomark _))
    (b_ (i_ (i:=2) nd rfl (Or.inl rfl) (m_ aN_ (ixl (pv 0) e_) (pv 1)))
    (b_ (bf_ (m_ eq_ (ixl (pv 0) e_) (pv 1)) (mG_ (pv 0) e_ hs_))
    (g_ (q_ (pv 2))))) w_)
   (b_ (bf_ (m_ r_ (ixl (pv 0) e_) e_) (mG_ (pv 0) e_ hs_))
   (b_ (i_ (i:=3) nd rfl (Or.inl rfl) (m_ aN_ (m_ H_ (m_ r_ (ixl (pv 0) e_) (m_ H_ e_ (ixl (pv 0) e_))) e_) e_))
   (b_ (i_ (i:=3) nd rfl (Or.inl rfl) (m_ aN_ (m_ H_ (pv 3) (pv 3)) e_))
   (b_ (i_ (i:=3) nd rfl (Or.inl rfl) (m_ aN_ (m_ H_ (m_ r_ (pv 3) (m_ H_ e_ (ixl (pv 0) e_))) e_) e_))
   (g_ (q_ (m_ aN_ (m_ eq_ (pv 3) e_) (pv 1)))))))),?_⟩
  have fin:∀(c' e' j':Int) (r:Int),0<=r->r<m->Q (.int r) (upd H q (.lst [.int c',.int e',.int j'])):=fun c' e' j' r r0 r1=>k r _ r0 r1 ⟨c',e',j',c_⟩ (aQ_ Kp.refl (.inl (by simp)))
  refine⟨_,rfl,_,_,_,_,rfl,rfl,SqL.of hc,rfl,⟨_,_,rfl,rfl,_,rfl,mW_ ?way1 ?way2⟩⟩
  case way1 =>
   refine⟨_,rfl,_,_,_,_,rfl,rfl,SqL.of hc,rfl,⟨_,rfl,_,_,rfl,rfl,m0,?_⟩⟩
   refine⟨_,rfl,_,_,_,_,rfl,rfl,SqL.of hc,rfl,⟨_,rfl,_,_,rfl,rfl,⟨m0,m1⟩,_,rfl,q,_,_,_,rfl,rfl,hc,rfl,?_⟩⟩
   exact⟨_,rfl,fin (g / m) c j (g % m) (Int.emod_nonneg _ (by lia)) (Int.emod_lt_of_pos _ m0)⟩
  case way2 =>
   refine⟨_,rfl,_,_,_,_,rfl,rfl,SqL.of hc,rfl,⟨_,_,rfl,rfl,_,rfl,q,_,_,_,rfl,rfl,hc,rfl,?_⟩⟩
   refine⟨_,rfl,_,_,_,_,rfl,rfl,SqL.of c_,rfl,⟨_,rfl,_,_,_,_,rfl,rfl,SqL.of c_,rfl,⟨_,_,rfl,rfl,.inl ⟨by decide,by decide⟩,_,_,rfl,rfl,_,_,rfl,rfl,.inr ⟨by decide,by decide⟩,_,_,rfl,rfl,(by show(0:Int)<2147483647;decide),?_⟩⟩⟩
   refine⟨_,rfl,_,rfl,_,_,rfl,rfl,.inl ⟨by lia,by lia⟩,_,_,rfl,rfl,(by show(0:Int)<2147483629;decide),?_⟩
   refine⟨_,rfl,_,rfl,_,_,_,_,rfl,rfl,SqL.of c_,rfl,⟨_,_,rfl,rfl,.inl ⟨by decide,by decide⟩,_,_,rfl,rfl,_,_,rfl,rfl,.inr ⟨by decide,by decide⟩,_,_,rfl,rfl,(by show(0:Int)<2147483587;decide),?_⟩⟩
   refine⟨_,rfl,_,_,rfl,rfl,⟨by decide,by decide⟩,_,rfl,_,_,rfl,rfl,m0,?_⟩
   exact fin g c (j+1) _ (Int.emod_nonneg _ (by lia)) (Int.emod_lt_of_pos _ m0)
theorem jA_:FnScope ["store","longest","base","parts","way","one","weights","k","any_one","some"] ["store","longest"] (h_ hA_):=⟨rfl,rfl,rfl,by decide +kernel,rfl,by decide +kernel,by decide +kernel⟩
theorem lL_{f:Addr}{fd:FuncData}(F:Fun K "_law_frame" "_law_frame" hA_ f fd)(T:Txt mg)(D1:Def P w K mg base 1 "_law_take" ["store","many"] dr_):FnOk P w K mg base CX0 2 f fd ["store","longest"] go_:=by
 refine F.ok jA_ (fun vs H Q E h=>?_) (fun cdv A outer s H vs Q E hr h=>?_)
 ·obtain⟨d,L,rfl,_⟩:=h;rfl
 ·obtain⟨d,L,rfl,D,L1,L6,k⟩:=h
  have nd:=jA_.nd
  refine⟨_,b_ (i_ (i:=2) nd rfl (Or.inl rfl) (ixl (s_ (a_ e_ (a_ e_ (a_ e_ (a_ e_ (a_ (m_ r_ e_ (p_ D1 hr (by rfl) (a_ (pv 0) (a_ e_ d_)))) d_)))))) (p_ D1 hr (by rfl) (a_ (pv 0) (a_ e_ d_)))))
   (b_ (ej_ (h_ hA_) ["store","longest","base","parts","way","one","weights","k","any_one","some"] ["store","longest"] [0,1] (i:=3) nd rfl (Or.inl rfl) rfl
    (y_ (by rfl) T.range (a_ (ixl (s_ (a_ e_ (a_ e_ (a_ e_ (a_ e_ d_))))) (p_ D1 hr (by rfl) (a_ (pv 0) (a_ e_ d_)))) d_))
    (fun cl C s H fp=>av_) (fun cl C s H fp=>m_ r_ e_ (p_ D1 hr (by rfl) (a_ (pv 1) (a_ (pv 2) d_)))) (by decide +kernel) (by rfl))
   (b_ (W_ (z_ cl_ (p_ D1 hr (by rfl) (a_ (pv 0) (a_ e_ d_))) e_ (nomark _)) (g_ (i_ (i:=3) nd rfl (Or.inl rfl) (m_ oR_ (aD_ bI_ (pv 3) cW_ (au_ e_)) (lenS T.len (by rfl) (pv 3))))) w_)
   (b_ (i_ (i:=4) nd rfl (Or.inl rfl) (p_ D1 hr (by rfl) (a_ (pv 0) (a_ e_ d_))))
   (b_ (i_ (i:=5) nd rfl (Or.inl rfl) (m_ R_ (p_ D1 hr (by rfl) (a_ (pv 0) (a_ e_ d_))) e_))
   (b_ (i_ (i:=6) nd rfl (Or.inl rfl) (s_ d_))
   (b_ (C_ PassesOwn.never rfl (y_ (by rfl) T.range (a_ (o_ (fP_ rfl) (by rfl) T.sum boot_sum (a_ (pv 3) d_)) d_)) (j_ (i:=7) nd rfl (Or.inl rfl))
    (b_ (i_ (i:=8) nd rfl (Or.inl rfl) (m_ R_ (p_ D1 hr (by rfl) (a_ (pv 0) (a_ e_ d_))) e_))
    (b_ (i_ (i:=9) nd rfl (Or.inl rfl) (s_ (a_ e_ (a_ (pv 5) (a_ (m_ aN_ (pv 8) e_) (a_ (pv 8)
      (a_ (m_ H_ (pv 8) (Q_ ax_ (by rfl) T.int boot_int (a_ (aw_ cl_ (p_ D1 hr (by rfl) (a_ (pv 0) (a_ e_ d_))) e_ (nomark _)) d_)))
      (a_ (m_ r_ (m_ aN_ (pv 7) (ixl (pv 3) e_)) e_) d_))))))))
    (g_ (I_ (cX_ PySem.F.plainAttrs_list PySem.F.slot_list_append PySem.F.type_list_append T_ (pv 6) (a_ (ixl (pv 9) (pv 4)) d_)))))))
   (g_ (q_ (bD_ (a_ (pv 2) (a_ (pv 3) (a_ (pv 6) d_)))))))))))),?_⟩
  refine⟨_,rfl,d,15,rfl,D,by decide,by decide,fun r1 H1 a1 b1 E1 k1=>⟨_,_,rfl,rfl,sz (by simp),fun l1 hl1=>?_⟩⟩
  refine⟨_,rfl,d,5,rfl,E1.keep (f_ hl1),by decide,by decide,fun r2 H2 a2 b2 E2 k2=>?_⟩
  obtain⟨bi,eb,hb⟩:=cm_ (ns:=[2,3,10,16,2+r1]) (Pr:=fun n=>2<=n/\n<=16) a2 b2 (by simp;lia)
  obtain⟨b,rfl⟩:∃b:Nat,bi=b:=⟨bi.toNat,by lia⟩
  refine bB_ (k2 l1 _ c_ (E1.off1 hl1)) eb ?_
  have K2:Kp [d] H H2:=k1.trans ((Kp.of (f_ hl1)).trans k2)
  refine⟨sz (by simp),fun l3 hl3=>⟨_,rfl,d,4,rfl,E2.keep (f_ hl3),by decide,by decide,fun r5 H5 a5 b5 E5 k5=>?_⟩⟩
  obtain⟨np,en,hnp⟩:=cm_ (ns:=[2,2,3,4]) (Pr:=fun n=>2<=n/\n<=4) a5 b5 (by simp)
  have K5:Kp [d] H H5:=K2.trans ((Kp.of (f_ hl3)).trans k5)
  refine bB_ (k5 l3 _ c_ (E2.off1 hl3)) en ⟨_,rfl,by lia,by lia,aT_ (lo:=0) (n:=np.toNat) (fun i ys H6=>∃ps:List Nat,ys=natV ps/\ps.length=i/\(∀x∈ps,1<=x/\x<=6)/\Store H6 d/\Kp [d] H H6)
   ⟨[],rfl,rfl,fun x hx=>by simp at hx,E5,K5⟩ ?_ ?_⟩
  ·rintro i ys H6 hi ⟨ps,rfl,hl,hp,E6,K6⟩
   refine⟨szl (by simp[natV];lia),?_⟩
   refine⟨_,rfl,_,rfl,d,L,rfl,E6,by lia,by lia,fun r H7 a7 b7 E7 k7=>⟨_,_,rfl,rfl,ps++[(1+r).toNat],?_,by simp[hl],fun x hx=>?_,E7,K6.trans k7⟩⟩
   ·have e:(((1+r).toNat:Nat):Int)=1+r:=by lia
    simp[natV]
    lia
   ·rcases List.mem_append.mp hx with hx | hx
    ·exact hp x hx
    ·have:x=(1+r).toNat:=by simpa using hx
     lia
  rintro ys H6 ⟨ps,rfl,hl,hp,E6,K6⟩ a ha
  have hna:a∉[d]:=E6.off1 ha
  refine⟨_,rfl,d,3,rfl,E6.keep (f_ ha),by decide,by decide,fun r6 H7 a6 b6 E7 k7=>⟨rfl,_,rfl,?_⟩⟩
  have K7:Kp [d] H H7:=K6.trans ((Kp.of (f_ ha)).trans k7)
  have h7:H7 a=some (.lst (natV ps)):=k7 a _ c_ hna
  refine gQ_ (fun σ H'=>∃(a':Addr) (ps':List Nat),σ=[some (.ref d),some (.int L),some (.int b),some (.ref a'),none,none,none,none,none,none]/\Store H' d/\Kp [d] H H'/\H' a'=some (.lst (natV ps'))/\a'∉[d]/\
   H a'=none/\2<=ps'.length/\ps'.length<=4/\∀x∈ps',1<=x/\x<=6) ?tail (fun hT=>?thn) ⟨a,ps,rfl,E7,K7,h7,hna,K6.free ha hna,by lia,by lia,hp⟩
  case thn =>
   refine⟨_,rfl,_,rfl,a,_,rfl,SqL.of h7,fun l5 hl5=>?_⟩
   have s5:Same H7 (upd H7 l5 (.lst (cutV (natV ps) none (some 1)))):=f_ hl5
   obtain⟨x0,rr,ee⟩:∃x0 rr,ps=x0::rr:=by
    cases ps with
    | nil=>simp at hl;lia
    | cons x0 rr=>exact⟨x0,rr,rfl⟩
   have ec:cutV (natV ps) none (some 1)=[V.int (x0:Int)]:=by
    rw[show(1:Int)=((1:Nat):Int) from rfl,kT_,ee]
    rfl
   refine⟨_,rfl,a,_,rfl,.inl (SqL.of (s5 _ _ h7)),l5,_,_,rfl,rfl,c_,by lia,?_,?_,fun l6 hl6=>hT _ _ ⟨l6,List.replicate ps.length x0,rfl,?_,?_,?_,?_,K7.free (s5.free hl6) ((E7.keep s5).off1 hl6),by simp;lia,by simp;lia,fun x hx=>?_⟩⟩
   ·simp[natV];lia
   ·rw[ec];exact sz (by simp[natV];lia)
   ·exact(E7.keep s5).keep (f_ hl6)
   ·exact K7.same (s5.trans (f_ hl6))
   ·rw[c_,ec]
    simp only[natV,List.length_map,Int.toNat_natCast]
    rw[ny_]
   ·exact(E7.keep s5).off1 hl6
   ·have:=List.eq_of_mem_replicate hx
    rw[this]
    exact hp x0 (by rw[ee];simp)
  case tail =>
   rintro σ H8 ⟨a',ps',rfl,E8,K8,h8,n8,f8,l2',l4',pr'⟩
   have hsum:=Ma.gg_ ps' pr'
   obtain⟨p0,pr,ep⟩:∃x0 rr,ps'=x0::rr:=by
    cases ps' with
    | nil=>simp at l2'
    | cons x0 rr=>exact⟨x0,rr,rfl⟩
   have hp0:=pr' p0 (by rw[ep];simp)
   have eat:atI (natV ps') 0=some (.int (p0:Int)):=by rw[ep];exact V_ (j:=0) (by simp[natV])
   refine⟨_,rfl,d,6,rfl,E8,by decide,by decide,fun wv H9 w0 w1 E9 k9=>⟨_,rfl,d,19,rfl,E9,by decide,by decide,fun ov H9b o0 o1 E9b k9b=>⟨_,_,rfl,rfl,sz (by decide),fun l hl=>?_⟩⟩⟩
   have h9:H9b a'=some (.lst (natV ps')):=k9b a' _ (k9 a' _ h8 n8) n8
   have s9:Same H9b (upd H9b l (.lst [])):=f_ hl
   have nl:l∉[d]:=E9b.off1 hl
   have nld:l≠d:=E9b.off hl
   have al:a'≠l:=k_ h9 hl
   have K9:Kp [d] H H9b:=(K8.trans k9).trans k9b
   refine⟨_,rfl,a',ps'.map fun(p:Nat)=>(p:Int),rfl,SqL.of (by rw[<-gM_];exact s9 _ _ h9),⟨by rw[List.length_map];lia,lR_ pr'⟩,_,rfl,?_⟩
   rw[Ma.dN_]
   refine⟨by lia,by lia,?_⟩
   have en':(((ps'.sum:Nat):Int)).toNat=ps'.sum:=by lia
   rw[en']
   refine D_ (n:=ps'.sum) (fun i σ H6=>∃(ws:List Int) (v7 v8 v9:Option V),σ=[some (.ref d),some (.int L),some (.int b),some (.ref a'),some (.int wv),some (.int (ov-9)),some (.ref l),v7,v8,v9]/\Store H6 d/\Kp [d] H H6/\H6 a'=some (.lst (natV ps'))/\
    H6 l=some (.lst (ws.map V.int))/\ws.length=i/\∀x∈ws,-9<=x/\x<=9) ⟨[],none,none,none,rfl,E9b.keep s9,K9.same s9,s9 _ _ h9,c_,rfl,fun x hx=>by simp at hx⟩ ?_ ?_
   ·rintro i σ H10 hi ⟨ws,v7,v8,v9,rfl,E10,K10,h10,hl10,hw10,hr10⟩
    refine⟨_,rfl,d,19,rfl,E10,by decide,by decide,fun av G1 x1 y1 F1 j1=>⟨_,_,rfl,rfl,?_⟩⟩
    refine⟨_,rfl,_,rfl,_,_,rfl,rfl,(by show(0:Int)<3;decide),_,rfl,_,rfl,_,rfl,d,4,rfl,F1,by decide,by decide,fun r3 G3 x3 y3 F3 j3=>?_⟩
    have J3:Kp [d] H10 G3:=j1.trans j3
    have la:G3 a'=some (.lst (natV ps')):=J3 a' _ h10 n8
    have ll:G3 l=some (.lst (ws.map V.int)):=J3 l _ hl10 nl
    refine⟨rfl,.inr ⟨_,rfl,_,_,rfl,rfl,b01 _,?_⟩⟩
    refine⟨_,rfl,_,rfl,_,_,_,_,rfl,rfl,SqL.of la,eat,⟨_,_,rfl,rfl,(by show(0:Int)<p0;lia),_,_,rfl,rfl,sz (by simp),fun m hm=>?_⟩⟩
    have nm:m≠d:=F3.off hm
    have q1:=Int.emod_nonneg (0+(i:Int)) (show(p0:Int)≠0 by lia)
    have q2:=Int.emod_lt_of_pos (0+(i:Int)) (show(0:Int)<p0 by lia)
    have q3:=Int.emod_nonneg (av-9) (show(3:Int)≠0 by decide)
    have q4:=Int.emod_lt_of_pos (av-9) (show(0:Int)<3 by decide)
    obtain⟨x,ev,hx⟩:=cm_ (ns:=[1,ov-9,(av-9) % 3,av-9,(av-9)*(if (decide (V.int r3=V.int 0))=true then 1 else 0),(0+(i:Int)) % (p0:Int)+1]) (i:=wv) (Pr:=fun n => -9<=n/\n<=9) w0 w1 (by
     intro n hn
     simp only[List.mem_cons,List.not_mem_nil,or_false] at hn
     rcases hn with rfl | rfl | rfl | rfl | rfl | rfl
     ·decide
     ·lia
     ·lia
     ·lia
     ·split <;> lia
     ·lia)
    refine⟨_,rfl,.inl ⟨rfl,_,SqL.of ((f_ hm) _ _ ll)⟩,_,rfl,_,rfl,_,_,_,_,rfl,rfl,SqL.of c_,ev,⟨l,_,_,rfl,rfl,(f_ hm) _ _ ll,szl (by rw[List.length_map];lia),ws++[x],_,_,_,rfl,?_,?_,?_,?_,by simp[hw10],fun y hy=>?_⟩⟩
    ·exact(F3.keep (f_ hm)).upd nld
    ·exact aQ_ ((K10.trans J3).same (f_ hm)) (.inr (K9.free hl nl))
    ·rw[l_ al];exact(f_ hm) _ _ la
    ·rw[c_];simp
    ·rcases List.mem_append.mp hy with hy | hy
     ·exact hr10 y hy
     ·have:y=x:=by simpa using hy
      rw[this];exact hx
   ·rintro σ H6 ⟨ws,v7,v8,v9,rfl,E10,K10,h10,hl10,hw10,hr10⟩
    refine⟨_,rfl,_,rfl,_,rfl,sz (by simp),fun f' hf'=>?_⟩
    have sf:Same H6 (upd H6 f' (.tup [.int b,.ref a',.ref l])):=f_ hf'
    exact k f' a' l b ps' ws _ (E10.keep sf) (K10.same sf) ⟨c_,sf _ _ h10,sf _ _ hl10,⟨by lia,by lia,l2',l4',pr',hw10,hr10⟩⟩ (K10.free hf' (E10.off1 hf')) f8 (K9.free hl nl)
end
theorem df_{ps:List Nat}{i:Nat}{x:V}(h:(natV ps)[i]?=some x):∃p:Nat,ps[i]?=some p/\x=.int p:=by
 rw[natV,List.getElem?_map] at h
 cases e:ps[i]? with
 | none=>rw[e] at h;cases h
 | some d=>rw[e] at h;exact⟨d,rfl,(Option.some.inj h).symm⟩
section
variable{P:Program}{w:World}{K:PySem.W.Frag}{mg:Str->Option Value}{base:Heap}
theorem hw_:FnScope ["frame","found","k"] ["frame"] (h_ sMany):=⟨rfl,rfl,rfl,by decide +kernel,rfl,by decide +kernel,by decide +kernel⟩
theorem nO_{f:Addr}{fd:FuncData}(F:Fun K "_law_many" "_law_many" sMany f fd)(T:Txt mg):FnOk P w K mg base CX0 1 f fd ["frame"] N_:=by
 refine F.ok hw_ (fun vs H Q E h=>?_) (fun cdv A outer s H vs Q E hr h=>?_)
 ·obtain⟨g,a,c,b,ps,ws,rfl,_⟩:=h;rfl
 ·obtain⟨g,a,c,b,ps,ws,rfl,G,k⟩:=h
  have ok:=G.ok
  have hsum:=ok.sum
  have b16:=ok.b16
  refine⟨_,b_ (i_ (i:=1) hw_.nd rfl (Or.inl rfl) e_)
   (b_ (C_ PassesOwn.never rfl (y_ (by rfl) T.range (a_ (lenS T.len (by rfl) (ixt (pv 0) e_)) d_)) (j_ (i:=2) hw_.nd rfl (Or.inl rfl))
    (g_ (i_ (i:=1) hw_.nd rfl (Or.inl rfl) (m_ H_ (pv 1) (ixt (pv 0) e_)))))
   (g_ (q_ (pv 1)))),?_⟩
  refine⟨_,rfl,_,_,_,_,rfl,rfl,SqT.of G.tp,rfl,⟨c,_,rfl,.inl (SqL.of G.hw),_,rfl,(by rw[List.length_map,ok.wl];lia),(by rw[List.length_map,ok.wl];lia),?_⟩⟩
  have en:((ws.map V.int).length:Int).toNat=ps.sum:=by rw[List.length_map,ok.wl];lia
  rw[en]
  refine D_ (n:=ps.sum) (fun i σ H2=>H2=H/\∃v,σ=[some (.ref g),some (.int ((b ^ i:Nat):Int)),v]) ⟨rfl,none,rfl⟩ ?_ ?_
  ·rintro i σ H2 hi ⟨rfl,v,rfl⟩
   refine⟨_,rfl,_,rfl,_,_,_,_,rfl,rfl,SqT.of G.tp,rfl,⟨_,_,rfl,rfl,.inr ⟨by lia,by lia⟩,rfl,some (.int (0+(i:Int))),?_⟩⟩
   rw[Nat.pow_succ]
   push_cast
   rfl
  ·rintro σ H2 ⟨rfl,v,rfl⟩
   exact⟨_,rfl,k _ (Same.refl _)⟩
theorem fg_:FnScope ["frame","n","found","k"] ["frame","n"] (h_ eg_):=⟨rfl,rfl,rfl,by decide +kernel,rfl,by decide +kernel,by decide +kernel⟩
theorem iy_{f:Addr}{fd:FuncData}(F:Fun K "_law_figures" "_law_figures" eg_ f fd)(T:Txt mg):FnOk P w K mg base CX0 1 f fd ["frame","n"] ai_:=by
 refine F.ok fg_ (fun vs H Q E h=>?_) (fun cdv A outer s H vs Q E hr h=>?_)
 ·obtain⟨g,a,c,b,ps,ws,n,rfl,_⟩:=h;rfl
 ·obtain⟨g,a,c,b,ps,ws,n,rfl,G,hn,k⟩:=h
  have ok:=G.ok
  have hsum:=ok.sum
  have b2:=ok.b2
  have b16:=ok.b16
  have nd:=fg_.nd
  refine⟨_,b_ (i_ (i:=2) nd rfl (Or.inl rfl) (s_ d_))
   (b_ (C_ PassesOwn.never rfl (y_ (by rfl) T.range (a_ (lenS T.len (by rfl) (ixt (pv 0) e_)) d_)) (j_ (i:=3) nd rfl (Or.inl rfl))
    (b_ (I_ (cX_ PySem.F.plainAttrs_list PySem.F.slot_list_append PySem.F.type_list_append T_ (pv 2) (a_ (m_ aN_ (pv 1) (ixt (pv 0) e_)) d_)))
    (g_ (i_ (i:=1) nd rfl (Or.inl rfl) (m_ eq_ (pv 1) (ixt (pv 0) e_))))))
   (g_ (q_ (gy_ (pv 2) (eo_ bR_ e_))))),?_⟩
  refine⟨sz (by decide),fun l hl=>?_⟩
  have s3:Same H (upd H l (.lst [])):=f_ hl
  have G3:=G.keep s3
  refine⟨_,rfl,_,_,_,_,rfl,rfl,SqT.of G3.tp,rfl,⟨c,_,rfl,.inl (SqL.of G3.hw),_,rfl,(by rw[List.length_map,ok.wl];lia),(by rw[List.length_map,ok.wl];lia),?_⟩⟩
  have en:((ws.map V.int).length:Int).toNat=ps.sum:=by rw[List.length_map,ok.wl];lia
  rw[en]
  refine D_ (n:=ps.sum) (fun i σ H4=>∃v,σ=[some (.ref g),some (.int ((n / b ^ i:Nat):Int)),some (.ref l),v]/\Same H H4/\H4 l=some (.lst (natV (Ma.ups b n i)))) ⟨none,(by rw[Nat.pow_zero,Nat.div_one];rfl),s3,c_⟩ ?_ ?_
  ·rintro i σ H4 hi ⟨v,rfl,s4,h4⟩
   have G4:=G.keep s4
   refine⟨_,rfl,.inl ⟨rfl,_,SqL.of h4⟩,_,rfl,_,rfl,_,_,_,_,rfl,rfl,SqT.of G4.tp,rfl,⟨_,_,rfl,rfl,(by show(0:Int)<b;lia),l,_,_,rfl,rfl,h4,szl (by simp[natV,Ma.iW_];lia),?_⟩⟩
   have s5:Same H (upd H4 l (.lst (natV (Ma.ups b n i)++[V.int (((n / b ^ i:Nat):Int) % (b:Int))]))):=B_ s4 hl
   refine⟨_,rfl,_,rfl,_,_,_,_,rfl,rfl,SqT.of (G.keep s5).tp,rfl,⟨_,_,rfl,rfl,⟨by show(0:Int)<b;lia,by show(b:Int)<1073741824;lia⟩,some (.int (0+(i:Int))),?_,s5,?_⟩⟩
   ·rw[<-Ma.na_]
    push_cast
    rfl
   ·rw[c_,Ma.hj_]
    simp[natV]
  ·rintro σ H4 ⟨v,rfl,s4,h4⟩
   refine⟨_,rfl,_,rfl,rfl,l,_,rfl,SqL.of h4,fun r hr'=>?_⟩
   refine k r _ (s4.free hr') (B_ s4 (s4.free hr')) ?_
   rw[c_,<-Ma.iV_]
   simp[natV]
theorem ff_:FnScope ["frame","n","figures","at","sums","size"] ["frame","n"] (h_ dY_):=⟨rfl,rfl,rfl,by decide +kernel,rfl,by decide +kernel,by decide +kernel⟩
theorem iv_{f:Addr}{fd:FuncData}(F:Fun K "_law_spread" "_law_spread" dY_ f fd)(T:Txt mg)(DF:Def P w K mg base 1 "_law_figures" ["frame","n"] ai_):FnOk P w K mg base CX0 2 f fd ["frame","n"] aY_:=by
 refine F.ok ff_ (fun vs H Q E h=>?_) (fun cdv A outer s H vs Q E hr h=>?_)
 ·obtain⟨g,a,c,b,ps,ws,n,rfl,_⟩:=h;rfl
 ·obtain⟨g,a,c,b,ps,ws,n,rfl,G,hn,k⟩:=h
  have ok:=G.ok
  have hsum:=ok.sum
  have b2:=ok.b2
  have b16:=ok.b16
  have l4:=ok.l4
  have nd:=ff_.nd
  have hsmall:=Ma.eL_ (n:=n) (L:=ps.sum) (by lia:0<b) b16 ok.wr
  refine⟨_,b_ (i_ (i:=2) nd rfl (Or.inr rfl) (p_ DF hr (by rfl) (a_ (pv 0) (a_ (pv 1) d_))))
   (b_ (i_ (i:=3) nd rfl (Or.inl rfl) e_)
   (b_ (i_ (i:=4) nd rfl (Or.inl rfl) (s_ d_))
   (b_ (C_ PassesOwn.never rfl (J_ (ixt (pv 0) e_)) (j_ (i:=5) nd rfl (Or.inl rfl))
    (b_ (I_ (cX_ PySem.F.plainAttrs_list PySem.F.slot_list_append PySem.F.type_list_append T_ (pv 4) (a_ (o_ (fP_ rfl) (by rfl) T.sum boot_sum (a_
     (aZ_ (h_ dY_) ["frame","n","figures","at","sums","size"] ["figures","frame"] [2,0] rfl (jR_ (by rfl) T.range (a_ (pv 3) (a_ (m_ r_ (pv 3) (pv 5)) d_))) (fun cl C s H fp=>av_)
      (fun cl C s H fp=>m_ H_ (ixlK K rfl (pv 1) (pv 0)) (ixlK K rfl (ixtK K rfl (pv 2) e_) (pv 0))) (by decide +kernel)) d_)) d_)))
    (g_ (i_ (i:=3) nd rfl (Or.inl rfl) (m_ r_ (pv 3) (pv 5))))))
   (g_ (q_ (m_ R_ (o_ (bq_ rfl) (by rfl) T.max boot_max (a_ (pv 4) d_)) (o_ (aU_ rfl) (by rfl) T.min boot_min (a_ (pv 4) d_)))))))),?_⟩
  refine⟨_,rfl,_,rfl,g,a,c,b,ps,ws,n,rfl,G,hn,fun r H1 hr1 s1 h1=>?_⟩
  refine⟨sz (by decide),fun l hl=>?_⟩
  have sl:Same H1 (upd H1 l (.lst [])):=f_ hl
  have G1:=(G.keep s1).keep sl
  refine⟨_,rfl,_,_,_,_,rfl,rfl,SqT.of G1.tp,rfl,a,rfl,⟨_,SqL.of G1.hp⟩,Z_ (K:=K) (a:=a) (xs:=natV ps) (fun i σ H2=>∃(v5:Option V),σ=[some (.ref g),some (.int n),some (.ref r),some (.int (((ps.take i).sum:Nat):Int)),some (.ref l),v5]/\
   Same H1 H2/\H2 l=some (.lst (((ao_ b n ps ws).take i).map V.int))) ⟨none,rfl,sl,c_⟩ (fun i σ H2 _ h=>by obtain⟨_,_,s2,_⟩:=h;exact SqL.of ((s1.trans s2) _ _ G.hp)) ?_ ?_⟩
  ·rintro i x σ H2 hx ⟨v5,rfl,s2,h2⟩
   obtain⟨p,hp,rfl⟩:=df_ hx
   have hp6:=ok.pr p (List.mem_of_getElem? hp)
   have hil:=(List.getElem?_eq_some_iff.mp hp).1
   have hfit:(ps.take i).sum+p<=ps.sum:=by
    have e1:(ps.take (i+1)).sum=(ps.take i).sum+p:=by rw[List.take_add_one,hp,List.sum_append];simp
    have e2:ps.sum=(ps.take (i+1)).sum+(ps.drop (i+1)).sum:=by rw[<-List.sum_append,List.take_append_drop]
    lia
   have G2:=G.keep (s1.trans s2)
   have hr2:=s2 _ _ h1
   have er:(((ps.take i).sum:Nat):Int)+(p:Int)-(((ps.take i).sum:Nat):Int)=(p:Int):=by lia
   refine⟨_,rfl,.inl ⟨rfl,_,SqL.of h2⟩,_,rfl,_,rfl,_,rfl,_,_,rfl,rfl,_,_,rfl,?_⟩
   dsimp only
   rw[er]
   refine aT_ (lo:=(((ps.take i).sum:Nat):Int)) (n:=(p:Int).toNat) (fun j ys H3=>H2=H3/\ys=(((Ma.wts b n ps.sum ws).drop (ps.take i).sum).take j).map V.int) ⟨rfl,by simp⟩ ?_ ?_
   ·rintro j ys H3 hj ⟨rfl,rfl⟩
    have hij:(ps.take i).sum+j<ps.sum:=by lia
    have ez:(((ps.take i).sum:Nat):Int)+(j:Int)=(((ps.take i).sum+j:Nat):Int):=by lia
    obtain⟨d,hd⟩:∃d,(Ma.dws b n ps.sum ps.sum)[(ps.take i).sum+j]?=some d:=⟨_,List.getElem?_eq_getElem (by rw[Ma.M_];exact hij)⟩
    obtain⟨y,hy⟩:∃y,ws[(ps.take i).sum+j]?=some y:=⟨_,List.getElem?_eq_getElem (by rw[ok.wl];exact hij)⟩
    have hy9:=ok.wr y (List.mem_of_getElem? hy)
    rw[ez]
    refine⟨szl (by rw[List.length_map,List.length_take];lia),_,rfl,_,rfl,_,_,_,_,rfl,rfl,SqL.of hr2,V_ (v:=V.int (d:Int)) (by simp[natV,hd]),⟨_,rfl,_,_,_,_,rfl,rfl,SqT.of G2.tp,rfl,⟨_,rfl,_,_,_,_,rfl,rfl,SqL.of G2.hw,V_ (v:=V.int y) (by simp[hy]),⟨_,_,rfl,rfl,.inr ⟨by lia,by lia⟩,rfl,?_⟩⟩⟩⟩
    have eg:((Ma.wts b n ps.sum ws).drop (ps.take i).sum)[j]?=some ((d:Int)*y):=by rw[List.getElem?_drop];exact Ma.iQ_ hd hy
    rw[List.take_add_one,eg]
    simp
   ·rintro ys H3 ⟨rfl,rfl⟩ q hq
    have ep:(p:Int).toNat=p:=by lia
    rw[ep]
    have eg:(Ma.cuts ps (Ma.wts b n ps.sum ws))[i]?=some (((Ma.wts b n ps.sum ws).drop (ps.take i).sum).take p):=Ma.aF_ ps _ i p hp
    have es:(ao_ b n ps ws)[i]?=some (((Ma.wts b n ps.sum ws).drop (ps.take i).sum).take p).sum:=by show(Ma.psums ps _)[i]?=_;unfold Ma.psums;rw[List.getElem?_map,eg];rfl
    have lq:l≠q:=k_ h2 hq
    refine⟨q,_,rfl,SqL.of c_,⟨by rw[List.length_take];lia,fun z hz=>?_⟩,l,_,_,rfl,rfl,(f_ hq) _ _ h2,szl (by rw[List.length_map,List.length_take];lia),?_⟩
    ·have:=hsmall z (List.mem_of_mem_drop (List.mem_of_mem_take hz))
     lia
    ·refine⟨_,rfl,_,rfl,_,_,rfl,rfl,some (.int (p:Int)),?_,?_,?_⟩
     ·rw[List.take_add_one,hp,List.sum_append]
      show[some (V.ref g),some (.int n),some (.ref r),some (.int (((ps.take i).sum:Nat)+(p:Int))),some (.ref l),_]=_
      simp
     ·exact B_ (B_ s2 (s2.free hq)) hl
     ·rw[c_,List.take_add_one,es]
      simp
  ·rintro σ H2 ⟨v5,rfl,s2,h2⟩
   have e:(natV ps).length=(ao_ b n ps ws).length:=by rw[Ma.aL_];simp[natV]
   rw[e,List.take_length] at h2
   exact⟨_,rfl,l,_,rfl,SqL.of h2,bS_ ok,_,rfl,l,_,rfl,SqL.of h2,bS_ ok,_,_,rfl,rfl,k H2 (s1.trans s2)⟩
end
theorem boot_dict:bootBuiltins "dict"=some (.type "dict"):=PyProof.Rows.boot_dict
theorem boot_sorted:bootBuiltins "sorted"=some (.builtin "sorted"):=PyProof.Rows.boot_sorted
theorem eE_{f:List (Int×Int)}{i:Nat}{k:Key}{v:V}(h:(intsD f)[i]?=some (k,v)):∃p:Int×Int,f[i]?=some p/\k=Sum.inl p.1/\v=.int p.2:=by
 rw[intsD,List.getElem?_map] at h
 cases e:f[i]? with
 | none=>rw[e] at h;cases h
 | some p =>
  rw[e] at h
  have z:=Option.some.inj h
  exact⟨p,rfl,(congrArg Prod.fst z).symm,(congrArg Prod.snd z).symm⟩
theorem U_{H:Hp}{a:Addr}{f:List (Int×Int)}{k:Int}(h:Rd H a (.dK (intsD f))):DGet H a (.int k) ((Me.look f k).map V.int):=.inl ⟨intsD f,Sum.inl k,h,rfl,(iU_ f k).symm⟩
theorem cF_(o:Option Int):(o.map V.int).getD (.int 0)=.int (o.getD 0):=by cases o <;> rfl
theorem dh_{H:Hp}{a:Addr}{f:List (Int×Int)}{k v:Int}(h:H a=some (.dK (intsD f)))(hl:f.length<=100000):DPut H a (.int k) (.int v) (upd H a (.dK (intsD (Me.put f k v)))):=by
 rw[<-hC_]
 exact DPut.k (k:=Sum.inl k) h (szl (by rw[intsD,List.length_map];lia))
def cL_:Sp:=fun vs H Q _=>∃(a:Addr) (f:List (Int×Int)) (b:Nat) (w:Int) (m:Nat),vs=[.ref a,.int b,.int w]/\H a=some (.dK (intsD f))/\Me.Ok f m/\m<=1000/\b<=16/\(-9<=w/\w<=9)/\
 ∀p H',H p=none->Same H H'->H' p=some (.dK (intsD (Me.S_ f b w)))->Q (.ref p) H'
section
variable{P:Program}{w:World}{K:PySem.W.Frag}{mg:Str->Option Value}{base:Heap}
theorem fb_:FnScope ["ways","base","weight","longer","total","figure","reached"] ["ways","base","weight"] (h_ ea_):=⟨rfl,rfl,rfl,by decide +kernel,rfl,by decide +kernel,by decide +kernel⟩
theorem iu_{f:Addr}{fd:FuncData}(F:Fun K "with_one_more_figure" "with_one_more_figure" ea_ f fd)(T:Txt mg):FnOk P w K mg base CX0 1 f fd ["ways","base","weight"] cL_:=by
 refine F.ok fb_ (fun vs H Q E h=>?_) (fun cdv A outer s H vs Q E hr h=>?_)
 ·obtain⟨a,f,b,wt,m,rfl,_⟩:=h;rfl
 ·obtain⟨a,f,b,wt,m,rfl,ha,ok,hm,hb,hw,k⟩:=h
  have nd:=fb_.nd
  have hu:=fE_ hr
  refine⟨_,b_ (i_ (i:=3) nd rfl (Or.inl rfl) cD_)
   (b_ (C_ PassesOwn.never rfl (em_ (pv 0)) (j_ (i:=4) nd rfl (Or.inl rfl))
    (g_ (C_ PassesOwn.never rfl (y_ (by rfl) T.range (a_ (pv 1) d_)) (j_ (i:=5) nd rfl (Or.inl rfl))
     (b_ (i_ (i:=6) nd rfl (Or.inl rfl) (m_ r_ (pv 4) (m_ H_ (pv 5) (pv 2))))
     (g_ (ei_ hu (pv 3) (pv 6) (m_ r_ (cE_ hu (pv 3) (pv 6) e_ ⟨rfl,rfl,rfl,rfl⟩) (bL_ hu (pv 0) (pv 4) (fun _ _=>rfl))) rfl))))))
   (eh_ (g_ (q_ (pv 3))))),?_⟩
  intro l hl
  have nal:a≠l:=k_ ha hl
  refine⟨_,rfl,a,intsD f,rfl,(by rw[l_ nal];exact ha),fun o=>eF_ (fun i σ H2=>∃v4 v5 v6,σ=[some (.ref a),some (.int b),some (.int wt),some (.ref l),v4,v5,v6]/\H2 a=some (.frz o (.dK (intsD f)))/\Kp [a] H H2/\H2 l=some (.dK (intsD (Me.S_ (f.take i) b wt))))
   ⟨none,none,none,rfl,c_,aQ_ (aQ_ Kp.refl (.inr hl)) (.inl (by simp)),?_⟩ (fun i σ H2 _ h=>by obtain⟨_,_,_,_,z,_⟩:=h;exact z) ?_ ?_⟩
  ·rw[l_ nal.symm,c_];rfl
  ·rintro i kk v σ H2 hk ⟨v4,v5,v6,rfl,fa,kp,hl2⟩
   obtain⟨p,hp,rfl,rfl⟩:=eE_ hk
   have pm:=List.mem_of_getElem? hp
   have pb:=ok.bd p.1 (List.mem_map.mpr ⟨p,pm,rfl⟩)
   have o0:=Me.aO_ ok hw hb i
   refine⟨_,rfl,_,rfl,by lia,by lia,D_ (n:=(b:Int).toNat) (fun d σ H3=>∃v5 v6,σ=[some (.ref a),some (.int b),some (.int wt),some (.ref l),some (.int p.1),v5,v6]/\H3 a=some (.frz o (.dK (intsD f)))/\Kp [a] H H3/\H3 l=some (.dK (intsD (Me.figs p wt d (Me.S_ (f.take i) b wt)))))
    ⟨v5,v6,rfl,fa,kp,hl2⟩ ?_ ?_⟩
   ·rintro d σ H3 hd ⟨v5,v6,rfl,fa3,kp3,hl3⟩
    have hd':d<b:=by lia
    have od:=Me.eG_ pb hw hb o0 d (by lia)
    have hlen:=Me.Ok.len (m:=m+135) (by push_cast;exact od)
    refine⟨_,rfl,_,rfl,_,rfl,_,_,rfl,rfl,.inr ⟨by lia,by lia⟩,_,_,rfl,rfl,?_⟩
    refine⟨_,rfl,l,rfl,.inl ⟨_,.inl hl3⟩,_,rfl,_,U_ (.inl hl3),_,rfl,_,rfl,a,.int p.2,rfl,?_,_,_,cF_ _,rfl,_,rfl,_,rfl,l,_,rfl,dh_ hl3 (by lia),?_⟩
    ·have z:=U_ (k:=p.1) (.inr ⟨o,fa3⟩)
     rw[Me.am_ ok.nd pm] at z
     exact z
    ·refine⟨_,_,rfl,?_,aQ_ kp3 (.inr hl),?_⟩
     ·rw[l_ nal];exact fa3
     ·rw[c_,Me.aR_]
      have e0:(0:Int)+(d:Int)=(d:Int):=Int.zero_add _
      rw[e0]
      rfl
   ·rintro σ H3 ⟨v5,v6,rfl,fa3,kp3,hl3⟩
    refine⟨_,_,_,rfl,fa3,kp3,?_⟩
    have eb:(b:Int).toNat=b:=by lia
    rw[eb] at hl3
    rw[Me.bm_ hp]
    exact hl3
  ·rintro σ H2 ⟨v4,v5,v6,rfl,fa,kp,hl2⟩
   have el:(intsD f).length=f.length:=by rw[intsD,List.length_map]
   rw[el,List.take_length] at hl2
   refine⟨a,o,intsD f,fa,(fun o' u z=>by
    have z':H a=some (.frz o' u):=z
    rw[ha] at z';cases z'),_,rfl,k l _ hl (fun x ob e=>?_) (by rw[l_ nal.symm];exact hl2)⟩
   by_cases hx:x=a
   ·rw[hx,c_,<-ha,<-hx];exact e
   ·rw[l_ hx];exact kp x ob e (by simpa using hx)
end
theorem dz_{H H':Hp}(s:Same H H'){ts:List Addr}{kvs:List (Key×V)}(h:bP_ H ts kvs):bP_ H' ts kvs:=Paired.mapP h fun _ _ e=>s _ _ e
theorem ip_{H:Hp}{t:Addr}{p:Key×V}(h:H t=some (.tup [kV p.1,p.2])){ts:List Addr}{kvs:List (Key×V)}(q:bP_ H ts kvs):bP_ H (ts++[t]) (kvs++[p]):=by
 induction q with
 | nil=>exact .cons h .nil
 | cons h0 _ ih=>exact .cons h0 ih
def gi_:Sp:=fun vs H Q _=>∃(b:Nat) (r:Addr) (ws:List Int),vs=[.int b,.ref r]/\H r=some (.lst (ws.map V.int))/\b<=16/\(∀x∈ws,-9<=x/\x<=9)/\ws.length<=6/\
 ∀p H' g,H p=none->Same H H'->H' p=some (.dK (intsD g))->g.Perm (Me.waysW b ws)->Q (.ref p) H'
theorem mq_{b i:Nat}{ws:List Int}(hw:∀x∈ws,-9<=x/\x<=9)(hb:b<=16):Me.Ok (Me.waysW b (ws.take i)) ((135*i:Nat):Int):=by
 have h:=Me.cH_ hw hb i
 push_cast
 exact h
section
variable{P:Program}{w:World}{K:PySem.W.Frag}{mg:Str->Option Value}{base:Heap}
theorem jv_:FnScope ["base","weights","ways","weight"] ["base","weights"] (h_ hx_):=⟨rfl,rfl,rfl,by decide +kernel,rfl,by decide +kernel,by decide +kernel⟩
theorem lF_{f:Addr}{fd:FuncData}(F:Fun K "ways_of_weights" "ways_of_weights" hx_ f fd)(T:Txt mg)(ndict:mg "dict"=none)(nsorted:mg "sorted"=none)(DO:Def P w K mg base 1 "with_one_more_figure" ["ways","base","weight"] cL_) :
  FnOk P w K mg base CX0 2 f fd ["base","weights"] gi_:=by
 refine F.ok jv_ (fun vs H Q E h=>?_) (fun cdv A outer s H vs Q E hr h=>?_)
 ·obtain⟨b,r,ws,rfl,_⟩:=h;rfl
 ·obtain⟨b,r,ws,rfl,hrow,hb,hw,hlen,k⟩:=h
  have nd:=jv_.nd
  have hu:=fE_ hr
  refine⟨_,b_ (i_ (i:=2) nd rfl (Or.inr rfl) (jU_ (hF_ e_ e_ jO_) rfl rfl (by simp) (by decide)))
   (b_ (C_ PassesOwn.never rfl (J_ (pv 1)) (j_ (i:=3) nd rfl (Or.inl rfl)) (g_ (i_ (i:=2) nd rfl (Or.inr rfl) (p_ DO hr (by rfl) (a_ (pv 2) (a_ (pv 0) (a_ (pv 3) d_)))))))
   (g_ (q_ (Q_ (iO_ rfl) (by rfl) ndict boot_dict (a_ (aZ_ (h_ hx_) ["base","weights","ways","weight"] ["ways"] [2] rfl (J_ (o_ (fQ_ rfl) (by rfl) nsorted boot_sorted (a_ (pv 2) d_)))
    (fun cl C s H fp=>av_) (fun cl C s H fp=>bD_ (a_ (pv 0) (a_ (bL_ hu (pv 1) (pv 0) (fun _ _=>rfl)) d_))) (by decide +kernel)) d_))))),?_⟩
  intro p0 hp0
  refine⟨c_,[(Sum.inl 0,.int 1)],rfl,by decide,?_⟩
  have s0:Same H (upd (upd H p0 (.dK [])) p0 (.dK (ak_ [] [(Sum.inl 0,V.int 1)]))):=B_ (f_ hp0) hp0
  have u0:(upd (upd H p0 (.dK [])) p0 (.dK (ak_ [] [(Sum.inl 0,V.int 1)]))) p0=some (.dK (intsD [(0,1)])):=c_
  generalize upd (upd H p0 (.dK [])) p0 (.dK (ak_ [] [(Sum.inl 0,V.int 1)]))=H0 at s0 u0⊢
  refine⟨_,rfl,r,rfl,⟨_,SqL.of (s0 _ _ hrow)⟩,Z_ (K:=K) (a:=r) (xs:=ws.map V.int) (fun i σ H2=>∃p v3,σ=[some (.int b),some (.ref r),some (.ref p),v3]/\Same H H2/\H p=none/\H2 p=some (.dK (intsD (Me.waysW b (ws.take i)))))
   ⟨p0,none,rfl,s0,hp0,u0⟩ (fun i σ H2 _ h=>by obtain⟨_,_,_,s2,_⟩:=h;exact SqL.of (s2 _ _ hrow)) ?_ ?_⟩
  ·rintro i x σ H2 hx ⟨p,v3,rfl,s2,np,hp⟩
   have hil:i<ws.length:=by have:=(List.getElem?_eq_some_iff.mp hx).1;simpa using this
   obtain⟨y,hy,rfl⟩:∃y:Int,ws[i]?=some y/\x=.int y:=by
    rw[List.getElem?_map] at hx
    cases e:ws[i]? with
    | none=>rw[e] at hx;cases hx
    | some d=>rw[e] at hx;exact⟨d,rfl,(Option.some.inj hx).symm⟩
   refine⟨_,rfl,_,rfl,_,rfl,p,_,b,y,135*i,rfl,hp,mq_ hw hb,by lia,hb,hw y (List.mem_of_getElem? hy),fun p' H3 np' s3 hp3=>⟨p',_,rfl,s2.trans s3,s2.free np',?_⟩⟩
   rw[Me.cg_ hy]
   exact hp3
  rintro σ H2 ⟨p,v3,rfl,s2,np,hp⟩
  have oW:Me.Ok (Me.waysW b ws) ((135*ws.length:Nat):Int):=by
   have:=mq_ (i:=ws.length) hw hb
   rwa [List.take_length] at this
  rw[List.length_map,List.take_length] at hp
  have hWl:=oW.len
  generalize Me.waysW b ws=W at hp oW hWl k
  refine⟨_,rfl,p,intsD W,Me.keys W,rfl,.inl hp,by simp[intsD,Me.keys],fun l ns' hl hperm=>?_⟩
  have s3:=f_ (o:=.lst (ns'.map V.int)) hl
  have u3:(upd H2 l (.lst (ns'.map V.int))) l=some (.lst (ns'.map V.int)):=c_
  generalize upd H2 l (.lst (ns'.map V.int))=H3 at s3 u3⊢
  have hp3:=s3 _ _ hp
  have hnl:ns'.length=W.length:=by rw[hperm.length_eq];simp[Me.keys]
  refine⟨l,rfl,⟨_,SqL.of u3⟩,aj_ (K:=K) (a:=l) (xs:=ns'.map V.int) (fun i ys H'=>∃ts,ys=ts.map V.ref/\ts.length=i/\Same H3 H'/\bP_ H' ts (intsD ((ns'.take i).map fun n=>(n,(Me.look W n).getD 0))))
   ⟨[],rfl,rfl,Same.refl _,.nil⟩ (fun i ys H' _ h=>by obtain⟨_,_,_,s',_⟩:=h;exact SqL.of (s' _ _ u3)) ?_ ?_⟩
  ·rintro i x ys H' hx ⟨ts,rfl,htl,s',pa⟩
   have hil:i<ns'.length:=by have:=(List.getElem?_eq_some_iff.mp hx).1;simpa using this
   obtain⟨n,hn,rfl⟩:∃n:Int,ns'[i]?=some n/\x=.int n:=by
    rw[List.getElem?_map] at hx
    cases e:ns'[i]? with
    | none=>rw[e] at hx;cases hx
    | some d=>rw[e] at hx;exact⟨d,rfl,(Option.some.inj hx).symm⟩
   obtain⟨q,hq,eq⟩:=List.mem_map.mp (hperm.mem_iff.mp (List.mem_of_getElem? hn))
   have hlk:Me.look W n=some q.2:=by rw[<-eq];exact Me.am_ oW.nd hq
   refine⟨szl (by rw[List.length_map];lia),_,rfl,_,rfl,_,rfl,p,.int q.2,rfl,?_,sz (by simp),fun t ht=>⟨ts++[t],by simp,by simp[htl],s'.trans (f_ ht),?_⟩⟩
   ·have z:=U_ (k:=n) (.inl (s' _ _ hp3))
    rw[hlk] at z
    exact z
   ·rw[List.take_add_one,hn]
    have e2:intsD ((ns'.take i++(some n).toList).map fun n=>(n,(Me.look W n).getD 0))=intsD ((ns'.take i).map fun n=>(n,(Me.look W n).getD 0))++[(Sum.inl n,V.int q.2)]:=by
     simp[intsD,hlk]
    rw[e2]
    exact ip_ (p:=(Sum.inl n,V.int q.2)) c_ (dz_ (f_ ht) pa)
  rintro ys H' ⟨ts,rfl,htl,s',pa⟩ l2 hl2
  rw[List.length_map,List.take_length] at pa
  have hg:=Me.iq_ oW.nd hperm
  have gnd:(Me.keys (ns'.map fun n=>(n,(Me.look W n).getD 0))).Nodup:=(hg.map Prod.fst).nodup_iff.mpr oW.nd
  refine⟨l2,ts,_,rfl,c_,dz_ (f_ hl2) pa,fun q hq=>?_⟩
  have em:ak_ [] (intsD (ns'.map fun n=>(n,(Me.look W n).getD 0)))=intsD (ns'.map fun n=>(n,(Me.look W n).getD 0)):=by
   have z:=dC_ (ns'.map fun n=>(n,(Me.look W n).getD 0)) []
   rw[Me.fy_ _ [] (by simpa using gnd)] at z
   exact z
  rw[em]
  have S:=s2.trans (s3.trans (s'.trans (f_ (o:=.lst (ts.map V.ref)) hl2)))
  exact k q _ _ (S.free hq) (S.trans (f_ hq)) c_ hg
end
end Hv
namespace Me
abbrev tot(f:List (Int×Int)):Int:=(f.map (·.2)).sum
theorem jH_{f:List (Int×Int)}{k v:Int}(h:k∉keys f):(f.map fun p=>if p.1=k then (p.1,v) else p)=f:=by
 induction f with
 | nil=>rfl
 | cons p f ih =>
  have h1:p.1≠k:=fun z=>h (by simp[keys,z])
  have h2:k∉keys f:=fun z=>h (List.mem_cons_of_mem _ z)
  rw[List.map_cons,ih h2,if_neg h1]
theorem nC_{f:List (Int×Int)}{a x v:Int}(h:a∉keys f):put ((a,x)::f) a v=(a,v)::f:=by
 unfold put
 rw[if_pos (by simp),List.map_cons,jH_ h,if_pos rfl]
theorem ly_{f:List (Int×Int)}{a x k v:Int}(h:a≠k):put ((a,x)::f) k v=(a,x)::put f k v:=by
 unfold put
 have e:(((a,x)::f).any fun p=>decide (p.1=k))=f.any fun p=>decide (p.1=k):=by
  rw[List.any_cons]
  simp[h]
 rw[e]
 split
 ·rw[List.map_cons,if_neg h]
 ·rfl
theorem hS_{f:List (Int×Int)}{a x:Int}:look ((a,x)::f) a=some x:=by simp[look]
theorem fz_{f:List (Int×Int)}{a x k:Int}(h:a≠k):look ((a,x)::f) k=look f k:=by simp[look,h]
theorem hd_{f:List (Int×Int)}{a x n:Int}(h:a∉keys f):addTo ((a,x)::f) a n=(a,x+n)::f:=by
 unfold addTo
 rw[hS_,nC_ h]
 rfl
theorem eK_{f:List (Int×Int)}{a x k n:Int}(h:a≠k):addTo ((a,x)::f) k n=(a,x)::addTo f k n:=by
 unfold addTo
 rw[fz_ h,ly_ h]
theorem li_{k n:Int}:∀ {f:List (Int×Int)},(keys f).Nodup->tot (addTo f k n)=tot f+n
 | [],_=>by simp[addTo,put,look,tot]
 | (a,x)::f,nd=>by
  have nd1:a∉keys f:=(List.nodup_cons.mp nd).1
  have nd2:(keys f).Nodup:=(List.nodup_cons.mp nd).2
  by_cases e:a=k
  ·subst e
   rw[hd_ nd1]
   simp only[tot,List.map_cons,List.sum_cons]
   lia
  ·have ih:=li_ (k:=k) (n:=n) nd2
   rw[eK_ e]
   simp only[tot,List.map_cons,List.sum_cons] at ih⊢
   lia
theorem ni_{k n:Int}(hn:0<=n):∀ {f:List (Int×Int)},(keys f).Nodup->(∀p∈f,0<=p.2)->∀p∈addTo f k n,0<=p.2
 | [],_,_=>by
  intro p hp
  have:p=(k,0+n):=by simpa [addTo,put,look] using hp
  rw[this]
  show 0<=0+n
  lia
 | (a,x)::f,nd,h=>by
  have nd1:a∉keys f:=(List.nodup_cons.mp nd).1
  have nd2:(keys f).Nodup:=(List.nodup_cons.mp nd).2
  have hx:0<=x:=h (a,x) (by simp)
  have hf:∀p∈f,0<=p.2:=fun p hp=>h p (by simp[hp])
  by_cases e:a=k
  ·subst e
   rw[hd_ nd1]
   intro p hp
   rcases List.mem_cons.mp hp with rfl | hp
   ·show 0<=x+n
    lia
   ·exact hf p hp
  ·rw[eK_ e]
   intro p hp
   rcases List.mem_cons.mp hp with rfl | hp
   ·exact hx
   ·exact ni_ hn nd2 hf p hp
theorem nj_{f:List (Int×Int)}{k n:Int}(nd:(keys f).Nodup):(keys (addTo f k n)).Nodup:=hT_ nd
structure Tw(f:List (Int×Int))(t:Int):Prop where
 nd:(keys f).Nodup
 nn:∀p∈f,0<=p.2
 tt:tot f=t
theorem Tw.add{f:List (Int×Int)}{t k n:Int}(o:Tw f t)(hn:0<=n):Tw (addTo f k n) (t+n):=⟨nj_ o.nd,ni_ hn o.nd o.nn,by rw[li_ o.nd,o.tt]⟩
theorem Tw.figs{f:List (Int×Int)}{t w:Int}{p:Int×Int}(o:Tw f t)(hp:0<=p.2):∀n:Nat,Tw (figs p w n f) (t+n*p.2)
 | 0=>by
  have e:t+((0:Nat):Int)*p.2=t:=by simp
  rw[e];exact o
 | n+1=>by
  have e:t+((n+1:Nat):Int)*p.2=(t+n*p.2)+p.2:=by push_cast;rw[Int.add_mul];lia
  rw[aR_,e]
  exact(Tw.figs o hp n).add hp
theorem Tw.more{b:Nat}{w:Int}:∀ {f:List (Int×Int)} {acc:List (Int×Int)} {t:Int},Tw acc t->(∀p∈f,0<=p.2)->Tw (f.foldl (fun acc p=>Me.figs p w b acc) acc) (t+b*tot f)
 | [],acc,t,o,_=>by
  have e:t+(b:Int)*tot []=t:=by simp[tot]
  rw[e];exact o
 | p::f,acc,t,o,h=>by
  have e:t+(b:Int)*tot (p::f)=(t+b*p.2)+b*tot f:=by
   simp only[tot,List.map_cons,List.sum_cons]
   rw[Int.mul_add];lia
  rw[e,List.foldl_cons]
  exact Tw.more (o.figs (h p (by simp)) b) (fun q hq=>h q (by simp[hq]))
theorem Tw.one{f:List (Int×Int)}{t w:Int}{b:Nat}(o:Tw f t):Tw (S_ f b w) (b*t):=by
 have z:Tw [] 0:=⟨by simp[keys],fun p hp=>by simp at hp,rfl⟩
 have h:=Tw.more (b:=b) (w:=w) z o.nn
 rw[o.tt] at h
 have e:(0:Int)+b*t=b*t:=by lia
 rw[e] at h
 exact h
theorem hg_(b:Nat):∀(ws:List Int) (f:List (Int×Int)) (t:Int),Tw f t->Tw (ws.foldl (fun f w=>S_ f b w) f) ((b:Int) ^ ws.length*t)
 | [],f,t,o=>by
  have e:(b:Int) ^ ([]:List Int).length*t=t:=by simp
  rw[e];exact o
 | w::ws,f,t,o=>by
  have e:(b:Int) ^ (w::ws).length*t=(b:Int) ^ ws.length*(b*t):=by
   rw[List.length_cons,Int.pow_succ,Int.mul_assoc]
  rw[e]
  exact hg_ b ws _ _ o.one
theorem nn_(b:Nat)(ws:List Int):Tw (waysW b ws) ((b:Int) ^ ws.length):=by
 have z:Tw [(0,1)] 1:=⟨by simp[keys],fun p hp=>by
  have:p=(0,1):=by simpa using hp
  rw[this];decide,rfl⟩
 have h:=hg_ b ws _ _ z
 rw[Int.mul_one] at h
 exact h
theorem mO_:∀ {f:List (Int×Int)},(∀p∈f,0<=p.2)->0<=tot f/\∀p∈f,p.2<=tot f
 | [],_=>⟨by simp[tot],fun p hp=>by simp at hp⟩
 | q::f,h=>by
  obtain⟨i1,i2⟩:=mO_ (f:=f) fun p hp=>h p (by simp[hp])
  have hq:=h q (by simp)
  have e:tot (q::f)=q.2+tot f:=by simp[tot]
  rw[e]
  refine⟨by lia,fun p hp=>?_⟩
  rcases List.mem_cons.mp hp with rfl | hp
  ·lia
  ·have:=i2 p hp;lia
theorem lm_{b:Nat}{ws:List Int}(hb:b<=16)(hl:ws.length<=6)(k:Int):0<=(look (waysW b ws) k).getD 0/\(look (waysW b ws) k).getD 0<=16777216:=by
 have o:=nn_ b ws
 obtain⟨h0,h1⟩:=mO_ o.nn
 rw[o.tt] at h1
 have hm:b ^ ws.length<=16 ^ 6:=Nat.le_trans (Nat.pow_le_pow_left hb _) (Nat.pow_le_pow_right (by decide) hl)
 have hm':((b:Int) ^ ws.length)<=16777216:=by
  have e:((b ^ ws.length:Nat):Int)=(b:Int) ^ ws.length:=Int.natCast_pow b ws.length
  rw[<-e]
  have:(16:Nat) ^ 6=16777216:=by decide
  lia
 cases e:(waysW b ws).find? fun q=>decide (q.1=k) with
 | none =>
  rw[look,e]
  exact⟨by decide,by decide⟩
 | some q =>
  have hq:=List.mem_of_find?_eq_some e
  rw[look,e]
  exact⟨o.nn q hq,Int.le_trans (h1 q hq) hm'⟩
end Me
namespace Me
abbrev gv(f:List (Int×Int))(k:Int):Int:=(look f k).getD 0
theorem gR_{p:Int×Int}{w:Int}{acc:List (Int×Int)}(nd:(keys acc).Nodup):∀n:Nat,(keys (figs p w n acc)).Nodup
 | 0=>nd
 | n+1=>by rw[aR_];exact nj_ (gR_ nd n)
theorem dc_{f:List (Int×Int)}{t:Int}(h:t∉keys f):look f t=none:=by
 cases e:f.find? fun q=>decide (q.1=t) with
 | none=>rw[look,e];rfl
 | some q =>
  exfalso
  exact h (List.mem_map.mpr ⟨q,List.mem_of_find?_eq_some e,by simpa using List.find?_some e⟩)
theorem lt_{l m:List Int}(h:l.Perm m):l.sum=m.sum:=by
 induction h with
 | nil=>rfl
 | cons x _ ih=>rw[List.sum_cons,List.sum_cons,ih]
 | swap x y l=>simp only[List.sum_cons];lia
 | trans _ _ a b=>exact a.trans b
end Me
namespace Mq
def sm(f:Int->Int)(a:Int):Nat->Int
 | 0=>0
 | n+1=>sm f a n+f (a+n)
theorem eX_(f:Int->Int)(a:Int)(n:Nat):∀m:Nat,sm f a (n+m)=sm f a n+sm f (a+n) m
 | 0=>by simp[sm]
 | m+1=>by
  rw[<-Nat.add_assoc,sm,sm,eX_ f a n m]
  have e:a+((n+m:Nat):Int)=a+n+m:=by push_cast;lia
  rw[e]
  lia
theorem ap_{f:Int->Int}{a:Int}:∀ {n:Nat},(∀t,a<=t->t<a+n->f t=0)->sm f a n=0
 | 0,_=>rfl
 | n+1,h=>by
  rw[sm,ap_ (n:=n) fun t h1 h2=>h t h1 (by push_cast;lia),h (a+n) (by lia) (by push_cast;lia)]
  rfl
theorem bu_{f g:Int->Int}{a:Int}:∀ {n:Nat},(∀t,a<=t->t<a+n->f t=g t)->sm f a n=sm g a n
 | 0,_=>rfl
 | n+1,h=>by
  rw[sm,sm,bu_ (n:=n) fun t h1 h2=>h t h1 (by push_cast;lia),h (a+n) (by lia) (by push_cast;lia)]
theorem mx_{f:Int->Int}{a h:Int}{n m:Nat}(hf:∀t,h<t->f t=0)(hn:h<a+n)(hm:h<a+m):sm f a n=sm f a m:=by
 have key:∀ {n m:Nat},n<=m->h<a+n->sm f a n=sm f a m:=fun {n m} hle hn=>by
  obtain⟨k,rfl⟩:=Nat.exists_eq_add_of_le hle
  rw[eX_,ap_ (f:=f) (a:=a+n) (n:=k) fun t h1 _=>hf t (by lia)]
  lia
 rcases Nat.le_total n m with z | z
 ·exact key z hn
 ·exact(key z hm).symm
theorem nu_{g:Int->Int}{a b:Int}{n m:Nat}(h1:a<=b)(h2:b+m<=a+n)(z1:∀t,a<=t->t<b->g t=0)(z2:∀t,b+m<=t->t<a+n->g t=0):sm g a n=sm g b m:=by
 obtain⟨k,rfl⟩:∃k:Nat,b=a+k:=⟨(b-a).toNat,by lia⟩
 obtain⟨r,rfl⟩:∃r:Nat,n=k+(m+r):=⟨n-k-m,by lia⟩
 rw[eX_,eX_,ap_ (f:=g) (a:=a) (n:=k) fun t h1 h2=>z1 t h1 h2,ap_ (f:=g) (a:=a+k+m) (n:=r) fun t h1 h2=>z2 t (by lia) (by push_cast;lia)]
 lia
def pr(fs:List (Int->Int))(a:Int)(n:Nat):Int:=fs.foldl (fun m f=>m*sm f a n) 1
theorem kF_{fs:List (Int->Int)}{a:Int}{n:Nat}:fs.foldl (fun m f=>m*sm f a n) 0=0:=by
 induction fs with
 | nil=>rfl
 | cons f r ih=>simpa using ih
theorem el_{fs:List (Int->Int)}{a:Int}{n:Nat}{f:Int->Int}(hf:f∈fs)(h:sm f a n=0):pr fs a n=0:=by
 have key:∀(fs:List (Int->Int)) (c:Int),f∈fs->fs.foldl (fun m f=>m*sm f a n) c=0:=fun fs=>by
  induction fs with
  | nil=>intro c h;simp at h
  | cons q r ih =>
   intro c hq
   rcases List.mem_cons.mp hq with rfl | hq
   ·rw[List.foldl_cons,h,Int.mul_zero];exact kF_
   ·rw[List.foldl_cons];exact ih _ hq
 exact key fs 1 hf
theorem hE_{fs:List (Int->Int)}{a b:Int}{n m:Nat}(h:∀f∈fs,sm f a n=sm f b m):pr fs a n=pr fs b m:=by
 have key:∀(fs:List (Int->Int)) (c:Int),(∀f∈fs,sm f a n=sm f b m)->fs.foldl (fun m f=>m*sm f a n) c=fs.foldl (fun q f=>q*sm f b m) c:=fun fs=>by
  induction fs with
  | nil=>intro c _;rfl
  | cons q r ih =>
   intro c hq
   rw[List.foldl_cons,List.foldl_cons,hq q (by simp)]
   exact ih _ fun f hf=>hq f (by simp[hf])
 exact key fs 1 h
def gat(fs:List (Int->Int))(d:Nat)(t:Int):Int:=pr fs t (d+1)-pr fs (t+1) d
theorem oj_{fs:List (Int->Int)}{d r:Nat}{t low high:Int}(hs:∀f∈fs,∀u,high<u->f u=0)(ht:low<=t)(hr:(r:Int)=d\/(high-low<=r/\high-low<=d)):gat fs d t=gat fs r t:=by
 rcases hr with hr | ⟨h1,h2⟩
 ·rw[show d=r by lia]
 ·unfold gat
  rw[hE_ (fs:=fs) (a:=t) (b:=t) (n:=d+1) (m:=r+1) fun f hf=>mx_ (h:=high) (hs f hf) (by push_cast;lia) (by push_cast;lia),
   hE_ (fs:=fs) (a:=t+1) (b:=t+1) (n:=d) (m:=r) fun f hf=>mx_ (h:=high) (hs f hf) (by push_cast;lia) (by push_cast;lia)]
theorem po_{fs:List (Int->Int)}{d:Nat}{t last:Int}{f:Int->Int}(hf:f∈fs)(h:∀u,last<u->f u=0)(ht:last<t):gat fs d t=0:=by
 unfold gat
 rw[el_ hf (ap_ fun u h1 _=>h u (by lia)),el_ hf (ap_ fun u h1 _=>h u (by lia))]
 rfl
theorem pp_{fs:List (Int->Int)}{d:Nat}{t l:Int}{f:Int->Int}(hf:f∈fs)(h:∀u,u<l->f u=0)(ht:t+d<l):gat fs d t=0:=by
 unfold gat
 rw[el_ hf (ap_ fun u _ h2=>h u (by push_cast at h2;lia)),el_ hf (ap_ fun u _ h2=>h u (by push_cast at h2;lia))]
 rfl
theorem nZ_{fs:List (Int->Int)}{d:Nat}{low high maxl ming:Int}{fl fg:Int->Int}(hs:∀f∈fs,∀u,high<u->f u=0)(hl:fl∈fs)(hl':∀u,u<maxl->fl u=0)(hg:fg∈fs)(hg':∀u,ming<u->fg u=0)
  (o1:low<=maxl) (o2:ming<=high) (o3:low<=high) (o4:low<=ming) (o5:maxl<=high) {r:Nat} (hr:(r:Int)=if high-low<d then high-low else d) {first:Int} (hfirst:first=if maxl-r>low then maxl-r else low) :
  sm (gat fs d) low (high-low+1).toNat=sm (gat fs r) first (ming-first+1).toNat:=by
 have hr2:(r:Int)=d\/(high-low<=r/\high-low<=d):=by split at hr <;> lia
 have e:sm (gat fs d) low (high-low+1).toNat=sm (gat fs r) low (high-low+1).toNat:=bu_ fun t h1 _=>oj_ hs h1 hr2
 rw[e]
 have up:∀t,ming<t->gat fs r t=0:=fun t h=>po_ hg hg' h
 have dn:∀t,t+r<maxl->gat fs r t=0:=fun t h=>pp_ hl hl' h
 have f1:low<=first:=by rw[hfirst];split <;> lia
 have f2:∀t,low<=t->t<first->t+r<maxl:=fun t a b=>by rw[hfirst] at b;split at b <;> lia
 by_cases hc:first<=ming+1
 ·exact nu_ f1 (by lia) (fun t a b=>dn t (f2 t a b)) fun t a b=>up t (by lia)
 ·rw[ap_ (f:=gat fs r) (a:=low) fun t a b=>?_,ap_ (f:=gat fs r) (a:=first) fun t a b=>up t (by lia)]
  by_cases q:t<first
  ·exact dn t (f2 t a q)
  ·exact up t (by lia)
end Mq
namespace Me
theorem oE_{f:Int->Int}(h:∀t,0<=f t/\f t<=16777216)(a:Int):∀n:Nat,0<=Mq.sm f a n/\Mq.sm f a n<=16777216*n
 | 0=>⟨Int.le_refl _,Int.le_refl _⟩
 | n+1=>by
  have ih:=oE_ h a n
  have:=h (a+n)
  simp only[Mq.sm]
  push_cast
  lia
end Me
namespace Me
structure DOk(g:List (Int×Int)):Prop where
 ne:0<(keys g).length
 nd:(keys g).Nodup
 bd:∀k∈keys g,-810<=k/\k<=810
 val:∀t,0<=gv g t/\gv g t<=16777216
def losG(gs:List (List (Int×Int))):List Int:=gs.map fun g=>Ma.minL (keys g)
def hisG(gs:List (List (Int×Int))):List Int:=gs.map fun g=>Ma.maxL (keys g)
def fG(gs:List (List (Int×Int))):List (Int->Int):=gs.map fun g t=>gv g t
def nearG(gs:List (List (Int×Int)))(d:Nat):Int:=Mq.sm (Mq.gat (fG gs) d) (Ma.minL (losG gs)) (Ma.maxL (hisG gs)-Ma.minL (losG gs)+1).toNat
theorem pG_{g:List (Int×Int)}(o:DOk g){t:Int}(h:t<Ma.minL (keys g)):gv g t=0:=by
 have n:t∉keys g:=fun z=>by
  have:=(Ma.v_ _ o.ne).2 t z
  lia
 unfold gv
 rw[dc_ n]
 rfl
theorem pn_{g:List (Int×Int)}(o:DOk g){t:Int}(h:Ma.maxL (keys g)<t):gv g t=0:=by
 have n:t∉keys g:=fun z=>by
  have:=(Ma.x_ _ o.ne).2 t z
  lia
 unfold gv
 rw[dc_ n]
 rfl
theorem lohi{g:List (Int×Int)}(o:DOk g) : -810<=Ma.minL (keys g)/\Ma.minL (keys g)<=Ma.maxL (keys g)/\Ma.maxL (keys g)<=810:=by
 have h1:=o.bd _ (Ma.v_ _ o.ne).1
 have h2:=o.bd _ (Ma.x_ _ o.ne).1
 have h3:=(Ma.v_ _ o.ne).2 _ (Ma.x_ _ o.ne).1
 lia
theorem hb_{gs:List (List (Int×Int))}(hne:0<gs.length)(hg:∀g∈gs,DOk g) :
  -810<=Ma.minL (losG gs)/\Ma.minL (losG gs)<=Ma.maxL (losG gs)/\Ma.maxL (losG gs)<=Ma.maxL (hisG gs)/\Ma.minL (losG gs)<=Ma.minL (hisG gs)/\Ma.minL (hisG gs)<=Ma.maxL (hisG gs)/\Ma.maxL (hisG gs)<=810:=by
 have nl:0<(losG gs).length:=by rw[losG,List.length_map];exact hne
 have nh:0<(hisG gs).length:=by rw[hisG,List.length_map];exact hne
 obtain⟨m1,m2⟩:=Ma.v_ _ nl
 obtain⟨m3,m4⟩:=Ma.x_ _ nl
 obtain⟨m5,m6⟩:=Ma.v_ _ nh
 obtain⟨m7,m8⟩:=Ma.x_ _ nh
 obtain⟨rl,hrl,erl⟩:=List.mem_map.mp m3
 obtain⟨rg,hrg,erg⟩:=List.mem_map.mp m5
 obtain⟨r1,hr1,er1⟩:=List.mem_map.mp m1
 obtain⟨r7,hr7,er7⟩:=List.mem_map.mp m7
 have a1:=lohi (hg r1 hr1)
 have a2:=lohi (hg rl hrl)
 have a3:=lohi (hg rg hrg)
 have a4:=lohi (hg r7 hr7)
 have b1:=m8 _ (List.mem_map.mpr ⟨rl,hrl,rfl⟩)
 have b2:=m2 _ (List.mem_map.mpr ⟨rg,hrg,rfl⟩)
 exact⟨by lia,m2 _ m3,by lia,by lia,m6 _ m7,by lia⟩
theorem iB_{gs:List (List (Int×Int))}(hne:0<gs.length)(hg:∀g∈gs,DOk g){d r:Nat}{first:Int}(hr:(r:Int)=if Ma.maxL (hisG gs)-Ma.minL (losG gs)<d then Ma.maxL (hisG gs)-Ma.minL (losG gs) else d)
  (hf:first=if Ma.maxL (losG gs)-r>Ma.minL (losG gs) then Ma.maxL (losG gs)-r else Ma.minL (losG gs)) :
  Mq.sm (Mq.gat (fG gs) r) first (Ma.minL (hisG gs)-first+1).toNat=nearG gs d:=by
 have nl:0<(losG gs).length:=by rw[losG,List.length_map];exact hne
 have nh:0<(hisG gs).length:=by rw[hisG,List.length_map];exact hne
 have B:=hb_ hne hg
 obtain⟨m1,m2⟩:=Ma.v_ _ nl
 obtain⟨m3,m4⟩:=Ma.x_ _ nl
 obtain⟨m5,m6⟩:=Ma.v_ _ nh
 obtain⟨m7,m8⟩:=Ma.x_ _ nh
 obtain⟨rl,hrl,erl⟩:=List.mem_map.mp m3
 obtain⟨rg,hrg,erg⟩:=List.mem_map.mp m5
 unfold nearG
 exact(Mq.nZ_ (fs:=fG gs) (fl:=fun t=>gv rl t) (fg:=fun t=>gv rg t) (fun f hf u hu=>by
   obtain⟨g,hgm,rfl⟩:=List.mem_map.mp hf
   exact pn_ (hg g hgm) (by have:=m8 _ (List.mem_map.mpr ⟨g,hgm,rfl⟩);lia))
  (List.mem_map.mpr ⟨rl,hrl,rfl⟩) (fun u hu=>pG_ (hg rl hrl) (by lia)) (List.mem_map.mpr ⟨rg,hrg,rfl⟩) (fun u hu=>pn_ (hg rg hrg) (by lia)) (by lia) (by lia) (by lia) (by lia) (by lia) hr hf).symm
end Me
namespace L2
open PySem PySem.Spec PyProof.Rows
section
variable{X:Cx}{tg:Expr}
end
section
variable{X:Cx}
theorem eC_{P:Program}{w:World}{vs:List (Key×Value)}{ns:List Int}(hk:vs.map (·.1)=ns.map Sum.inl){i:Nat}{v:Value}(h:∃k x,vs[i]?=some (k,x)/\(A_ P w).is k v=true):∃n t,ns[i]?=some n/\v=Value.int n t:=by
 obtain⟨k,x,h1,h2⟩:=h
 have h3:(vs.map (·.1))[i]?=some k:=by rw[List.getElem?_map,h1];rfl
 rw[hk,List.getElem?_map] at h3
 cases q:ns[i]? with
 | none=>rw[q] at h3;cases h3
 | some m =>
  rw[q] at h3
  have h4:Sum.inl m=k:=Option.some.inj h3
  subst h4
  have h5:keyIs (Sum.inl m) v=true:=h2
  rcases E_ h5 with⟨i',t,e1,e2⟩ | ⟨y,t,e1,_⟩
  ·cases e1;exact⟨m,t,rfl,e2⟩
  ·cases e1
theorem la_(hc:X.calm=true):CallR X (.builtin "max") (fun xs H Q=>∃(a:Addr) (kvs:List (Key×V)) (ns:List Int),xs=[.ref a]/\Rd H a (.dK kvs)/\kvs.map (·.1)=ns.map Sum.inl/\0<ns.length/\Q (.int (Ma.maxL ns)) H):=by
 intro pins s σ H xs us Q I r h
 obtain⟨a,kvs,ns,rfl,e,hk,hne,q⟩:=h
 obtain⟨u,rfl,ru⟩:=vals1 r
 cases ru
 obtain⟨z,hd,vs,rel,o,es,ep,ho,dd⟩:=cv_ I.hok e
 have hkv:vs.map (·.1)=ns.map Sum.inl:=by rw[<-rel.keys];exact hk
 have hn:vs.length=ns.length:=by simpa using congrArg List.length hkv
 have KS:=PySem.W.kdl_dict (prog:=X.prog) (w:=X.w) (ep:=ep) (kvs:=vs) (knd:=A_ X.prog X.w) hd
 have hval:∀(i:Nat) (v:Value),(∃k x,vs[i]?=some (k,x)/\(A_ X.prog X.w).is k v=true)->∃t,v=.int ((fun i=>(ns[i]?).getD 0) i) t:=fun i v hP=>by
  obtain⟨n,t,e,rfl⟩:=eC_ hkv hP
  exact⟨t,by simp[e]⟩
 obtain⟨oI,St,hit,W,st⟩:=KS.iter X.A.in1 s (I.ok.hd hc) ⟨o,es,ho,dd⟩
 refine call_max_walk (hit _ _ ?_)
 refine⟨_,_,_,_,_,_,_,rfl,W,st,fun b hb'=>?_,by omega,CmpOf.ints_gt (fun i=>(ns[i]?).getD 0) hval,fun v h' tk hP hk=>?_⟩
 ·show b<(s.heap.push _).objs.size
  rw[Heap.size_push]
  rcases List.mem_cons.mp hb' with rfl | hb'
  ·exact Nat.lt_succ_self _
  ·rw[List.mem_singleton.mp hb'];exact Nat.lt_succ_of_lt (Heap.lt_size ho)
 ·rw[hn] at hP
  have ab:=argBest_gt (fun i=>(ns[i]?).getD 0) (ns.length-1)
  obtain⟨n,t,e,rfl⟩:=eC_ hkv hP
  have em:n=Ma.maxL ns:=Ma.cb_ (List.mem_of_getElem? e) fun m hm=>by
   obtain⟨j,hj⟩:=List.getElem?_of_mem hm
   have hjl:=(List.getElem?_eq_some_iff.mp hj).1
   have a2:=ab.2 j (by omega)
   simp only[hj,e,Option.getD_some] at a2
   exact a2
  subst em
  exact⟨.int _,H,I.kept (t':=tk) (h':=h') (fun b o e=>hk b o (fun hI=>absurd (Heap.lt_size e) (by rw[List.mem_singleton.mp hI];exact Nat.lt_irrefl _)) (Heap.get?_push_of_some _ e)),⟨_,rfl⟩,q⟩
theorem kZ_(hc:X.calm=true):CallR X (.builtin "min") (fun xs H Q=>∃(a:Addr) (kvs:List (Key×V)) (ns:List Int),xs=[.ref a]/\Rd H a (.dK kvs)/\kvs.map (·.1)=ns.map Sum.inl/\0<ns.length/\Q (.int (Ma.minL ns)) H):=by
 intro pins s σ H xs us Q I r h
 obtain⟨a,kvs,ns,rfl,e,hk,hne,q⟩:=h
 obtain⟨u,rfl,ru⟩:=vals1 r
 cases ru
 obtain⟨z,hd,vs,rel,o,es,ep,ho,dd⟩:=cv_ I.hok e
 have hkv:vs.map (·.1)=ns.map Sum.inl:=by rw[<-rel.keys];exact hk
 have hn:vs.length=ns.length:=by simpa using congrArg List.length hkv
 have KS:=PySem.W.kdl_dict (prog:=X.prog) (w:=X.w) (ep:=ep) (kvs:=vs) (knd:=A_ X.prog X.w) hd
 have hval:∀(i:Nat) (v:Value),(∃k x,vs[i]?=some (k,x)/\(A_ X.prog X.w).is k v=true)->∃t,v=.int ((fun i=>(ns[i]?).getD 0) i) t:=fun i v hP=>by
  obtain⟨n,t,e,rfl⟩:=eC_ hkv hP
  exact⟨t,by simp[e]⟩
 obtain⟨oI,St,hit,W,st⟩:=KS.iter X.A.in1 s (I.ok.hd hc) ⟨o,es,ho,dd⟩
 refine call_min_walk (hit _ _ ?_)
 refine⟨_,_,_,_,_,_,_,rfl,W,st,fun b hb'=>?_,by omega,CmpOf.ints_lt (fun i=>(ns[i]?).getD 0) hval,fun v h' tk hP hk=>?_⟩
 ·show b<(s.heap.push _).objs.size
  rw[Heap.size_push]
  rcases List.mem_cons.mp hb' with rfl | hb'
  ·exact Nat.lt_succ_self _
  ·rw[List.mem_singleton.mp hb'];exact Nat.lt_succ_of_lt (Heap.lt_size ho)
 ·rw[hn] at hP
  have ab:=argBest_lt (fun i=>(ns[i]?).getD 0) (ns.length-1)
  obtain⟨n,t,e,rfl⟩:=eC_ hkv hP
  have em:n=Ma.minL ns:=Ma.ca_ (List.mem_of_getElem? e) fun m hm=>by
   obtain⟨j,hj⟩:=List.getElem?_of_mem hm
   have hjl:=(List.getElem?_eq_some_iff.mp hj).1
   have a2:=ab.2 j (by omega)
   simp only[hj,e,Option.getD_some] at a2
   exact a2
  subst em
  exact⟨.int _,H,I.kept (t':=tk) (h':=h') (fun b o e=>hk b o (fun hI=>absurd (Heap.lt_size e) (by rw[List.mem_singleton.mp hI];exact Nat.lt_irrefl _)) (Heap.get?_push_of_some _ e)),⟨_,rfl⟩,q⟩
end
end L2
namespace Hv
open PySem L2
def runs(f:Int->Int)(lo:Int)(n:Nat):List V:=(List.range (n+1)).map fun k=>V.int (Mq.sm f lo k)
theorem lw_(f:Int->Int)(lo:Int)(n:Nat):(runs f lo n).length=n+1:=by simp[runs]
theorem fh_(f:Int->Int)(lo:Int)(n:Nat):runs f lo (n+1)=runs f lo n++[.int (Mq.sm f lo (n+1))]:=by
 unfold runs
 rw[List.range_succ (n:=n+1),List.map_append]
 rfl
theorem jG_{f:Int->Int}{lo:Int}{n k:Nat}(h:k<=n):(runs f lo n)[k]?=some (.int (Mq.sm f lo k)):=by
 unfold runs
 rw[List.getElem?_map,List.getElem?_range (by lia)]
 rfl
theorem jF_(f:Int->Int)(lo:Int):∀n:Nat,atI (runs f lo n) (-1)=some (.int (Mq.sm f lo n))
 | 0=>if_ [] (V.int (Mq.sm f lo 0))
 | n+1=>by rw[fh_];exact if_ _ _
theorem pairG{α β:Type}{R:α->β->Prop}:∀ {as:List α} {bs:List β},Paired R as bs->∀ {i:Nat} {a:α},as[i]?=some a->∃b,bs[i]?=some b/\R a b
 | _,_,.cons h t,0,a,e=>by cases e;exact⟨_,rfl,h⟩
 | _,_,.cons h t,i+1,a,e=>by
  rw[List.getElem?_cons_succ] at e
  obtain⟨b,h1,h2⟩:=pairG t e
  exact⟨b,by rw[List.getElem?_cons_succ];exact h1,h2⟩
def cK_:Sp:=fun vs H Q _=>∃(q:Addr) (g:List (Int×Int)) (lo hi:Int),vs=[.ref q,.int lo,.int hi]/\H q=some (.dK (intsD g))/\-5000<=lo/\lo<=5000/\-5000<=hi/\hi<=5000/\
 ∀r H',H r=none->Same H H'->H' r=some (.lst (runs (Me.gv g) lo (hi+1-lo).toNat))->Q (.ref r) H'
abbrev fX_(H:Hp)(lo:Int)(n:Nat)(rs:List Addr)(rows:List (List (Int×Int))):Prop:=Paired (fun r row=>H r=some (.lst (runs (fun t=>Me.gv row t) lo n))) rs rows
theorem fX_.keep{H H':Hp}{lo:Int}{n:Nat}{rs:List Addr}{rows:List (List (Int×Int))}(s:Same H H')(h:fX_ H lo n rs rows):fX_ H' lo n rs rows:=L2.Paired.mapP h fun q row e=>s _ _ e
abbrev WaysG(H:Hp)(qs:List Addr)(gs:List (List (Int×Int))):Prop:=Paired (fun q g=>H q=some (.dK (intsD g))) qs gs
theorem WaysG.keep{H H':Hp}{qs:List Addr}{gs:List (List (Int×Int))}(h:WaysG H qs gs)(s:Same H H'):WaysG H' qs gs:=L2.Paired.mapP h fun q g e=>s _ _ e
def dO_:Sp:=fun vs H Q _=>∃(p:Addr) (rs:List Addr) (rows:List (List (Int×Int))) (lo:Int) (n s e:Nat),vs=[.ref p,.int s,.int e]/\H p=some (.lst (rs.map V.ref))/\fX_ H lo n rs rows/\(∀row∈rows,Me.DOk row)/\n<=20000/\s<=e/\e<=n/\
 Q (.int (Mq.pr (Me.fG rows) (lo+s) (e-s))) H
section
variable{P:Program}{w:World}{K:PySem.W.Frag}{mg:Str->Option Value}{base:Heap}
theorem eZ_:FnScope ["ways","low","high","counts","total"] ["ways","low","high"] (h_ dZ_):=⟨rfl,rfl,rfl,by decide +kernel,rfl,by decide +kernel,by decide +kernel⟩
theorem it_{f:Addr}{fd:FuncData}(F:Fun K "running_counts" "running_counts" dZ_ f fd)(T:Txt mg):FnOk P w K mg base CX0 1 f fd ["ways","low","high"] cK_:=by
 refine F.ok eZ_ (fun vs H Q E h=>?_) (fun cdv A outer s H vs Q E hr h=>?_)
 ·obtain⟨q,g,lo,hi,rfl,_⟩:=h;rfl
 ·obtain⟨q,g,lo,hi,rfl,hq,a1,a2,a3,a4,k⟩:=h
  have nd:=eZ_.nd
  have hu:=fE_ hr
  refine⟨_,b_ (i_ (i:=3) nd rfl (Or.inl rfl) (s_ (a_ e_ d_)))
   (b_ (C_ PassesOwn.never rfl (jS_ (by rfl) T.range (a_ (pv 1) (a_ (m_ r_ (pv 2) e_) d_))) (j_ (i:=4) nd rfl (Or.inl rfl))
    (g_ (I_ (cX_ PySem.F.plainAttrs_list PySem.F.slot_list_append PySem.F.type_list_append T_ (pv 3) (a_ (m_ r_ (ixl (pv 3) (eo_ bR_ e_)) (cE_ hu (pv 0) (pv 4) e_ ⟨rfl,rfl,rfl,rfl⟩)) d_)))))
   (g_ (q_ (pv 3)))),?_⟩
  refine⟨sz (by simp),fun r hr'=>?_⟩
  have s0:=f_ (o:=.lst [.int 0]) hr'
  refine⟨_,rfl,_,rfl,_,_,rfl,rfl,_,_,rfl,⟨by lia,by lia,by lia,by lia⟩,?_⟩
  refine D_ (n:=(hi+1-lo).toNat) (fun i σ H2=>∃v4,σ=[some (.ref q),some (.int lo),some (.int hi),some (.ref r),v4]/\Same H H2/\H2 r=some (.lst (runs (Me.gv g) lo i))) ⟨none,rfl,s0,c_⟩ ?_ ?_
  ·rintro i σ H2 hi' ⟨v4,rfl,s2,h2⟩
   refine⟨_,rfl,.inl ⟨rfl,_,SqL.of h2⟩,_,rfl,1,rfl,?_⟩
   have e1:=jF_ (Me.gv g) lo i
   refine bB_ h2 e1 ⟨_,rfl,q,rfl,.inl ⟨_,.inl (s2 _ _ hq)⟩,_,rfl,_,U_ (.inl (s2 _ _ hq)),_,_,rfl,cF_ _,⟨r,_,_,rfl,rfl,h2,szl (by rw[lw_];lia),_,rfl,B_ s2 hr',?_⟩⟩
   rw[c_,fh_]
   rfl
  ·rintro σ H2 ⟨v4,rfl,s2,h2⟩
   exact⟨_,rfl,k r H2 hr' s2 h2⟩
theorem refG{qs:List Addr}{i:Nat}{x:V}(hx:(qs.map V.ref)[i]?=some x):∃q:Addr,qs[i]?=some q/\x=.ref q:=by
 rw[List.getElem?_map] at hx
 cases e:qs[i]? with
 | none=>rw[e] at hx;cases hx
 | some d=>rw[e] at hx;exact⟨d,rfl,(Option.some.inj hx).symm⟩
theorem nv_(f:Int->Int)(lo:Int){s e:Nat}(h:s<=e):Mq.sm f lo e-Mq.sm f lo s=Mq.sm f (lo+s) (e-s):=by
 obtain⟨k,rfl⟩:=Nat.exists_eq_add_of_le h
 rw[Mq.eX_,Nat.add_sub_cancel_left]
 lia
theorem mb_{rows:List (List (Int×Int))}{i:Nat}{row:List (Int×Int)}(h:rows[i]?=some row)(a:Int)(n:Nat):Mq.pr (Me.fG (rows.take (i+1))) a n=Mq.pr (Me.fG (rows.take i)) a n*Mq.sm (fun t=>Me.gv row t) a n:=by
 unfold Mq.pr Me.fG
 rw[List.take_add_one,h]
 simp
theorem ht_:FnScope ["running_by_part","start","end","many","running"] ["running_by_part","start","end"] (h_ gt_):=⟨rfl,rfl,rfl,by decide +kernel,rfl,by decide +kernel,by decide +kernel⟩
theorem ka_{f:Addr}{fd:FuncData}(F:Fun K "ways_within" "ways_within" gt_ f fd):FnOk P w K mg base CX0 1 f fd ["running_by_part","start","end"] dO_:=by
 refine F.ok ht_ (fun vs H Q E h=>?_) (fun cdv A outer s H vs Q E hr h=>?_)
 ·obtain⟨p,rs,rows,lo,n,s,e,rfl,_⟩:=h;rfl
 ·obtain⟨p,rs,rows,lo,n,st,e,rfl,hp,ra,hrs,hn,hse,hen,k⟩:=h
  have nd:=ht_.nd
  refine⟨_,b_ (i_ (i:=3) nd rfl (Or.inl rfl) e_)
   (b_ (C_ PassesOwn.never rfl (J_ (pv 0)) (j_ (i:=4) nd rfl (Or.inl rfl))
    (g_ (i_ (i:=3) nd rfl (Or.inl rfl) (m_ H_ (pv 3) (m_ R_ (ixl (pv 4) (pv 2)) (ixl (pv 4) (pv 1)))))))
   (g_ (q_ (pv 3)))),?_⟩
  refine⟨_,rfl,p,rfl,⟨_,SqL.of hp⟩,Z_ (K:=K) (a:=p) (xs:=rs.map V.ref) (fun i σ H'=>∃v4,σ=[some (.ref p),some (.int st),some (.int e),some (.int (Mq.pr (Me.fG (rows.take i)) (lo+st) (e-st))),v4]/\H=H')
   ⟨none,rfl,rfl⟩ (fun i σ H' _ h=>by obtain⟨_,_,e⟩:=h;rw[<-e];exact SqL.of hp) ?_ ?_⟩
  ·rintro i x σ H' hx ⟨v4,rfl,rfl⟩
   obtain⟨q,hq,rfl⟩:∃q:Addr,rs[i]?=some q/\x=.ref q:=by
    rw[List.getElem?_map] at hx
    cases e:rs[i]? with
    | none=>rw[e] at hx;cases hx
    | some d=>rw[e] at hx;exact⟨d,rfl,(Option.some.inj hx).symm⟩
   obtain⟨row,hj,hrow⟩:=pairG ra hq
   have hl:=hrs row (List.mem_of_getElem? hj)
   have bd:=Me.oE_ (f:=fun t=>Me.gv row t) hl.val (lo+st) (e-st)
   refine⟨_,rfl,_,rfl,_,rfl,bB_ hrow (V_ (jG_ (by lia))) ⟨_,rfl,_,rfl,bB_ hrow (V_ (jG_ (by lia))) ⟨_,_,rfl,rfl,?_⟩⟩⟩
   dsimp only
   rw[nv_ _ _ hse]
   refine⟨_,_,rfl,rfl,.inr ⟨by lia,by lia⟩,some (.ref q),?_,rfl⟩
   rw[mb_ hj]
   rfl
  ·rintro σ H' ⟨v4,rfl,rfl⟩
   have el:(rs.map V.ref).length=rows.length:=by rw[List.length_map];exact ra.length
   rw[el,List.take_length]
   exact⟨_,rfl,k⟩
def dS_:Sp:=fun vs H Q _=>∃(p:Addr) (qs:List Addr) (rows:List (List (Int×Int))) (d:Nat),vs=[.ref p,.int d]/\H p=some (.lst (qs.map V.ref))/\WaysG H qs rows/\0<rows.length/\rows.length<=4/\(∀row∈rows,Me.DOk row)/\
 ∀H',Same H H'->Q (.int (Me.nearG rows d)) H'
theorem hv_:FnScope ["ways_by_part","width","leasts","greatests","reach","first","last","running_by_part","count","start","end"] ["ways_by_part","width"] (h_ bw_):=⟨rfl,rfl,rfl,by decide +kernel,rfl,by decide +kernel,by decide +kernel⟩
theorem kd_{f:Addr}{fd:FuncData}(F:Fun K "count_spread_within" "count_spread_within" bw_ f fd)(T:Txt mg)(DR:Def P w K mg base 1 "running_counts" ["ways","low","high"] cK_)(DW:Def P w K mg base 1 "ways_within" ["running_by_part","start","end"] dO_) :
  FnOk P w K mg base CX0 2 f fd ["ways_by_part","width"] dS_:=by
 refine F.ok hv_ (fun vs H Q E h=>?_) (fun cdv A outer s H vs Q E hr h=>?_)
 ·obtain⟨p,qs,rows,d,rfl,_⟩:=h;rfl
 ·obtain⟨p,qs,rows,d,rfl,hp,wa,hne,h4,hrs,k⟩:=h
  have nd:=hv_.nd
  refine⟨_,b_ (ej_ (h_ bw_) ["ways_by_part","width","leasts","greatests","reach","first","last","running_by_part","count","start","end"] [] [] (i:=2) nd rfl (Or.inl rfl) rfl (J_ (pv 0)) (fun cl C s H fp=>av_) (fun cl C s H fp=>o_ (kZ_ rfl) (by rfl) T.min boot_min (a_ (pv 0) d_)) (by decide +kernel) (by rfl))
   (b_ (ej_ (h_ bw_) ["ways_by_part","width","leasts","greatests","reach","first","last","running_by_part","count","start","end"] [] [] (i:=3) nd rfl (Or.inl rfl) rfl (J_ (pv 0)) (fun cl C s H fp=>av_) (fun cl C s H fp=>o_ (la_ rfl) (by rfl) T.max boot_max (a_ (pv 0) d_)) (by decide +kernel) (by rfl))
   (b_ (i_ (i:=4) nd rfl (Or.inr rfl) (o_ (cf_ rfl) (by rfl) T.min boot_min (a_ (pv 1) (a_ (m_ R_ (o_ (bq_ rfl) (by rfl) T.max boot_max (a_ (pv 3) d_)) (o_ (aU_ rfl) (by rfl) T.min boot_min (a_ (pv 2) d_))) d_))))
   (b_ (i_ (i:=5) nd rfl (Or.inr rfl) (o_ (di_ rfl) (by rfl) T.max boot_max (a_ (o_ (aU_ rfl) (by rfl) T.min boot_min (a_ (pv 2) d_)) (a_ (m_ R_ (o_ (bq_ rfl) (by rfl) T.max boot_max (a_ (pv 2) d_)) (pv 4)) d_))))
   (b_ (i_ (i:=6) nd rfl (Or.inr rfl) (o_ (aU_ rfl) (by rfl) T.min boot_min (a_ (pv 3) d_)))
   (b_ (ej_ (h_ bw_) ["ways_by_part","width","leasts","greatests","reach","first","last","running_by_part","count","start","end"] ["first","last","reach"] [5,6,4] (i:=7) nd rfl (Or.inl rfl) rfl (J_ (pv 0)) (fun cl C s H fp=>av_) (fun cl C s H fp=>p_ DR hr (by rfl) (a_ (pv 0) (a_ (pv 1) (a_ (m_ r_ (pv 2) (pv 3)) d_)))) (by decide +kernel) (by rfl))
   (b_ (i_ (i:=8) nd rfl (Or.inl rfl) e_)
   (b_ (C_ PassesOwn.never rfl (y_ (by rfl) T.range (a_ (m_ r_ (m_ R_ (pv 6) (pv 5)) e_) d_)) (j_ (i:=9) nd rfl (Or.inl rfl))
    (b_ (i_ (i:=10) nd rfl (Or.inl rfl) (m_ r_ (m_ r_ (pv 9) (pv 4)) e_))
    (g_ (oK_ (i:=8) nd rfl (Or.inl rfl) (m_ R_ (p_ DW hr (by rfl) (a_ (pv 7) (a_ (pv 9) (a_ (pv 10) d_)))) (p_ DW hr (by rfl) (a_ (pv 7) (a_ (m_ r_ (pv 9) e_) (a_ (pv 10) d_))))) pm_))))
   (g_ (q_ (pv 8)))))))))),?_⟩
  have hql:qs.length=rows.length:=wa.length
  refine⟨_,rfl,p,rfl,⟨_,SqL.of hp⟩,aj_ (K:=K) (a:=p) (xs:=qs.map V.ref) (fun i ys H2=>ys=(Me.losG (rows.take i)).map V.int/\H=H2) ⟨rfl,rfl⟩ (fun i ys H2 _ h=>by rw[<-h.2];exact SqL.of hp) ?_ ?_⟩
  ·rintro i x ys H2 hx ⟨rfl,rfl⟩
   obtain⟨q,hq,rfl⟩:=refG hx
   have hil:i<qs.length:=(List.getElem?_eq_some_iff.mp hq).1
   obtain⟨g,hj,hg⟩:=pairG wa hq
   have kl:=(hrs g (List.mem_of_getElem? hj)).ne
   refine⟨szl (by simp[Me.losG];lia),_,rfl,q,intsD g,Me.keys g,rfl,.inl hg,by simp[intsD,Me.keys],kl,?_,rfl⟩
   rw[List.take_add_one,hj]
   simp[Me.losG]
  rintro ys H2 ⟨rfl,rfl⟩ l1 h1
  rw[List.length_map,hql,List.take_length]
  have s1:=f_ (o:=.lst ((Me.losG rows).map V.int)) h1
  have u1:upd H l1 (.lst ((Me.losG rows).map V.int)) l1=some (.lst ((Me.losG rows).map V.int)):=c_
  generalize upd H l1 (.lst ((Me.losG rows).map V.int))=H1 at s1 u1⊢
  have hp1:=s1 _ _ hp
  have wa1:=wa.keep s1
  refine⟨_,rfl,p,rfl,⟨_,SqL.of hp1⟩,aj_ (K:=K) (a:=p) (xs:=qs.map V.ref) (fun i ys H2=>ys=(Me.hisG (rows.take i)).map V.int/\H1=H2) ⟨rfl,rfl⟩ (fun i ys H2 _ h=>by rw[<-h.2];exact SqL.of hp1) ?_ ?_⟩
  ·rintro i x ys H2 hx ⟨rfl,rfl⟩
   obtain⟨q,hq,rfl⟩:=refG hx
   have hil:i<qs.length:=(List.getElem?_eq_some_iff.mp hq).1
   obtain⟨g,hj,hg⟩:=pairG wa1 hq
   have kl:=(hrs g (List.mem_of_getElem? hj)).ne
   refine⟨szl (by simp[Me.hisG];lia),_,rfl,q,intsD g,Me.keys g,rfl,.inl hg,by simp[intsD,Me.keys],kl,?_,rfl⟩
   rw[List.take_add_one,hj]
   simp[Me.hisG]
  rintro ys H2 ⟨rfl,rfl⟩ l2 h2
  rw[List.length_map,hql,List.take_length]
  have s2:=s1.trans (f_ (o:=.lst ((Me.hisG rows).map V.int)) h2)
  have u2:upd H1 l2 (.lst ((Me.hisG rows).map V.int)) l2=some (.lst ((Me.hisG rows).map V.int)):=c_
  have u1':=f_ (o:=.lst ((Me.hisG rows).map V.int)) h2 _ _ u1
  generalize upd H1 l2 (.lst ((Me.hisG rows).map V.int))=H2 at s2 u2 u1'⊢
  have nl:0<(Me.losG rows).length:=by rw[Me.losG,List.length_map];exact hne
  have nh:0<(Me.hisG rows).length:=by rw[Me.hisG,List.length_map];exact hne
  have B:=Me.hb_ hne hrs
  obtain⟨B1,B2,B3,B4,B5,B6⟩:=B
  refine⟨_,rfl,_,rfl,l2,_,rfl,SqL.of u2,nh,_,rfl,l1,_,rfl,SqL.of u1',nl,_,_,rfl,rfl,_,_,rfl,?_⟩
  dsimp only
  obtain⟨r,hr'⟩:∃r:Nat,(r:Int)=if Ma.maxL (Me.hisG rows)-Ma.minL (Me.losG rows)<(d:Int) then Ma.maxL (Me.hisG rows)-Ma.minL (Me.losG rows) else (d:Int):=⟨(if Ma.maxL (Me.hisG rows)-Ma.minL (Me.losG rows)<(d:Int) then Ma.maxL (Me.hisG rows)-Ma.minL (Me.losG rows) else (d:Int)).toNat,by split <;> lia⟩
  rw[<-hr']
  have rb:(r:Int)<=1620:=by split at hr' <;> lia
  refine⟨_,rfl,l1,_,rfl,SqL.of u1',nl,_,rfl,l1,_,rfl,SqL.of u1',nl,_,rfl,_,_,rfl,rfl,_,_,rfl,?_⟩
  dsimp only
  generalize hf:(if Ma.maxL (Me.losG rows)-(r:Int)>Ma.minL (Me.losG rows) then Ma.maxL (Me.losG rows)-(r:Int) else Ma.minL (Me.losG rows))=first
  have fb : -2430<=first/\first<=810:=by rw[<-hf];split <;> lia
  refine⟨_,rfl,l2,_,rfl,SqL.of u2,nh,?_⟩
  generalize hg0:Ma.minL (Me.hisG rows)=last
  rw[hg0] at B4 B5
  have hp2:=s2 _ _ hp
  have wa2:=wa.keep s2
  obtain⟨n,hn⟩:∃n:Nat,n=(last+(r:Int)+1-first).toNat:=⟨_,rfl⟩
  refine⟨_,rfl,p,rfl,⟨_,SqL.of hp2⟩,aj_ (K:=K) (a:=p) (xs:=qs.map V.ref) (fun i ys H3=>∃ts,ys=ts.map V.ref/\ts.length=i/\Same H2 H3/\fX_ H3 first n ts (rows.take i))
   ⟨[],rfl,rfl,Same.refl _,.nil⟩ (fun i ys H3 _ h=>by obtain⟨_,_,_,s',_⟩:=h;exact SqL.of (s' _ _ hp2)) ?_ ?_⟩
  ·rintro i x ys H3 hx ⟨ts,rfl,htl,s3,ra⟩
   obtain⟨q,hq,rfl⟩:=refG hx
   have hil:i<qs.length:=(List.getElem?_eq_some_iff.mp hq).1
   obtain⟨g,hj,hg⟩:=pairG wa2 hq
   refine⟨szl (by rw[List.length_map];lia),_,rfl,_,rfl,_,rfl,_,rfl,_,_,rfl,rfl,q,g,first,last+(r:Int),rfl,s3 _ _ hg,by lia,by lia,by lia,by lia,fun r' H4 hr4 s4 h4=>?_⟩
   refine⟨ts++[r'],by simp,by simp[htl],s3.trans s4,?_⟩
   rw[List.take_add_one,hj]
   rw[<-hn] at h4
   exact Paired.snoc (ra.keep s4) h4
  rintro ys H3 ⟨ts,rfl,htl,s3,ra⟩ l3 h3
  rw[List.length_map,hql,List.take_length] at ra
  have s4:=(s2.trans s3).trans (f_ (o:=.lst (ts.map V.ref)) h3)
  have ra4:=ra.keep (f_ (o:=.lst (ts.map V.ref)) h3)
  have u3:upd H3 l3 (.lst (ts.map V.ref)) l3=some (.lst (ts.map V.ref)):=c_
  generalize upd H3 l3 (.lst (ts.map V.ref))=H4 at s4 ra4 u3⊢
  refine⟨_,rfl,_,rfl,_,_,rfl,rfl,_,_,rfl,rfl,_,rfl,by lia,by lia,?_⟩
  have en:(last-first+1).toNat=(Ma.minL (Me.hisG rows)-first+1).toNat:=by rw[hg0]
  refine D_ (lo:=0) (n:=(last-first+1).toNat) (fun i σ H5=>∃v9 v10,σ=[some (.ref p),some (.int d),some (.ref l1),some (.ref l2),some (.int r),some (.int first),some (.int last),some (.ref l3),some (.int (Mq.sm (Mq.gat (Me.fG rows) r) first i)),v9,v10]/\H4=H5) ⟨none,none,?_,rfl⟩ ?_ ?_
  ·rfl
  ·rintro i σ H5 hi ⟨v9,v10,rfl,rfl⟩
   refine⟨_,rfl,_,rfl,_,_,rfl,rfl,_,_,rfl,rfl,?_⟩
   dsimp only
   refine⟨_,rfl,_,rfl,_,rfl,_,rfl,l3,ts,rows,first,n,i,i+r+1,?_,u3,ra4,hrs,by lia,by lia,by lia,?_⟩
   ·show[V.ref l3,V.int (0+(i:Int)),V.int (0+(i:Int)+(r:Int)+1)]=_
    rw[Int.zero_add]
    push_cast
    rfl
   refine⟨_,rfl,_,rfl,_,_,rfl,rfl,_,rfl,l3,ts,rows,first,n,i+1,i+r+1,?_,u3,ra4,hrs,by lia,by lia,by lia,?_⟩
   ·show[V.ref l3,V.int (0+(i:Int)+1),V.int (0+(i:Int)+(r:Int)+1)]=_
    rw[Int.zero_add]
    push_cast
    rfl
   refine⟨_,_,rfl,rfl,_,_,rfl,rfl,some (.int (0+(i:Int))),some (.int (0+(i:Int)+(r:Int)+1)),?_,rfl⟩
   have e1:i+r+1-i=r+1:=by lia
   have e2:i+r+1-(i+1)=r:=by lia
   have e3:first+((i+1:Nat):Int)=first+(i:Int)+1:=by push_cast;lia
   rw[e1,e2,e3]
   rfl
  ·rintro σ H5 ⟨v9,v10,rfl,rfl⟩
   refine⟨_,rfl,?_⟩
   rw[en,Me.iB_ hne hrs hr' hf.symm]
   exact k _ s4
end
end Hv
namespace Ma
def num(b:Nat)(ds:List Nat):Nat:=ds.foldl (fun x d=>x*b+d) 0
def behind(b n L:Nat):Nat:=num b (dws b n L L).reverse
end Ma
namespace Hv
open PySem L2
theorem mN_{ds:List Nat}{i:Nat}{x:V}(h:(natV ds)[i]?=some x):∃y:Nat,ds[i]?=some y/\x=.int (y:Int):=by
 simp only[natV,List.getElem?_map] at h
 cases e:ds[i]? with
 | none=>rw[e] at h;cases h
 | some d=>rw[e] at h;exact⟨d,rfl,(Option.some.inj h).symm⟩
section
variable{P:Program}{w:World}{K:PySem.W.Frag}{mg:Str->Option Value}{base:Heap}
end
end Hv
namespace L2
open PySem PySem.Spec PyProof.Rows
abbrev IsTri(h:Heap)(T:Addr)(a b c:Value):Prop:=h.get? T=some {cls:=.type "tuple",data:=.seq #[a,b,c]}
theorem dn_(a b c:Value):checkTypeCall "zip" ⟨[a,b,c],[]⟩=pure ():=by kernel_rfl
theorem ex_(a b c:Value):checkBuiltinCall "zip.__new__" ⟨[.type "zip",a,b,c],[]⟩=pure ():=by kernel_rfl
theorem hc_(a b c d:Value):argsOk "object.__init__" ⟨[a,b,c,d],[]⟩:=by
 unfold argsOk;rw[signature?_of (id:="object.__init__") (n:=['_','_','t','i','n','i','_','_']) (o:=['t','c','e','j','b','o']) (by kernel_rfl) F.owner_object];kernel_rfl
structure Zd(z TI TO i1 i2 i3 l1 l2 l3:Addr):Prop where
 nd:[z,TI,TO,i1,i2,i3].Nodup
 f1:l1∉[z,TO,i1,i2,i3]
 f2:l2∉[z,TO,i1,i2,i3]
 f3:l3∉[z,TO,i1,i2,i3]
section
variable{prog:Program}{w:World}{A:Around}{E:Value->Shared->Prop}{s:Shared}
theorem iX_{T:Addr}{a b c x:Value}{k:Nat}{Q:Unit->Shared->Prop}(hT:IsTri s.heap T a b c)
  (h:∀h',h'.get? T=some {cls:=.type "tuple",data:=.seq ((#[a,b,c]:Array Value).setIfInBounds k x)}->Heap.SameBut T s.heap h'->Q () {s with heap:=h'}) :
  wpAny (model prog w) A (updateSeq T (·.setIfInBounds k x)) Q E s:=by
 refine wpAny_updateSeq hT rfl (h _ ?_ (Heap.SameBut.update ..))
 rw[Heap.get?_update_self _ hT rfl]
 simp[Obj.mapSeq]
theorem iA_{z TI TO i1 i2 i3 l1 l2 l3:Addr}{k1 k2 k3:Nat}{xs ys zs:Array Value}{x y u a b c:Value}{Q:Value->Shared->Prop}(D:Zd z TI TO i1 i2 i3 l1 l2 l3)
  (hz:IsZip s.heap z TI TO .none) (hTI:IsTri s.heap TI (.ref i1) (.ref i2) (.ref i3)) (hTO:IsTri s.heap TO a b c)
  (h1:s.heap.IsListIter i1 l1 k1) (h2:s.heap.IsListIter i2 l2 k2) (h3:s.heap.IsListIter i3 l3 k3) (hl1:s.heap.IsList l1 xs) (hl2:s.heap.IsList l2 ys) (hl3:s.heap.IsList l3 zs) (hx:xs[k1]?=some x) (hy:ys[k2]?=some y) (hu:zs[k3]?=some u)
  (hQ:∀h',IsZip h' z TI TO (rawInt s.heap.objs.size)->IsTri h' TO x y u->h'.IsListIter i1 l1 (k1+1)->h'.IsListIter i2 l2 (k2+1)->h'.IsListIter i3 l3 (k3+1)->IsTri h' s.heap.objs.size x y u->h'.objs.size=s.heap.objs.size+1->
   (∀c o,c∉[z,TO,i1,i2,i3]->s.heap.get? c=some o->h'.get? c=some o)->Q (.ref s.heap.objs.size) {s with heap:=h'}) :
  wpAny (model prog w) A (Builtin.«zip.__next__» ⟨[.ref z],[]⟩) (fun fin s'=>∃v,fin=.done (.ret v)/\Q v s') E s:=by
 have nd:=D.nd
 simp only[List.nodup_cons,List.mem_cons,List.not_mem_nil,or_false,not_or,not_false_eq_true,List.nodup_nil,and_true] at nd
 obtain⟨⟨zTI,zTO,zi1,zi2,zi3⟩,⟨TITO,TIi1,TIi2,TIi3⟩,⟨TOi1,TOi2,TOi3⟩,⟨i12,i13⟩,i23⟩:=nd
 have f1:=D.f1
 have f2:=D.f2
 have f3:=D.f3
 simp only[List.mem_cons,List.not_mem_nil,or_false,not_or] at f1 f2 f3
 obtain⟨l1z,l1TO,l1i1,l1i2,l1i3⟩:=f1
 obtain⟨l2z,l2TO,l2i1,l2i2,l2i3⟩:=f2
 obtain⟨l3z,l3TO,l3i1,l3i2,l3i3⟩:=f3
 show wpAny _ _ (field (.ref z) 2>>=_) _ _ _
 refine wpAny_bind (wpAny_field hz rfl (x:=.bool false) rfl ?_)
 show wpAny _ _ (field (.ref z) 3>>=_) _ _ _
 refine wpAny_bind (wpAny_field hz rfl (x:=.ref TI) rfl ?_)
 refine wpAny_bind (wpAny_seqItems hTI rfl ?_)
 show wpAny _ _ (Builtin.SmallTypes.ownedTupleIsFree (.ref z)>>=_) _ _ _
 refine wpAny_bind ?_
 unfold Builtin.SmallTypes.ownedTupleIsFree
 refine wpAny_bind (wpAny_field hz rfl (x:=.none) rfl (wpAny_pure ?_))
 simp only[if_true]
 refine wpAny_bind (wpAny_rule ?_)
 refine wpAny_bind (wpAny_field hz rfl (x:=.ref TO) rfl ?_)
 refine wpAny_bind (wpAny_setField_rec hz (by simp) fun H1 hz1 s1=>?_)
 replace hz1:IsZip H1 z TI TO .ellipsis:=hz1
 refine wpAny_bind ?_
 simp only[List.zipIdx_cons,List.zipIdx_nil,List.forIn_cons,List.forIn_nil]
 refine wpAny_bind (wpAny_bind (wpAny_onRaise ?_))
 show wpAny _ _ (Builtin.SmallTypes.nextOf (.ref i1)>>=_) _ _ _
 refine wpAny_bind (wpAny_nextOf_list_item (h1.extBut s1.extBut (Ne.symm zi1)) (hl1.extBut s1.extBut l1z) hx fun H2 q2 s2=>wpAny_pure ?_)
 have t2:IsTri H2 TO a b c:=s2.extBut _ _ TOi1 (s1.extBut _ _ (Ne.symm zTO) hTO)
 refine wpAny_bind (wpAny_seqItems t2 rfl ?_)
 refine wpAny_bind (iX_ t2 fun H3 t3 s3=>?_)
 replace t3:IsTri H3 TO x b c:=t3
 refine wpAny_bind (wpAny_letGo (wpAny_pure ?_))
 refine wpAny_bind (wpAny_bind (wpAny_onRaise ?_))
 show wpAny _ _ (Builtin.SmallTypes.nextOf (.ref i2)>>=_) _ _ _
 have up3:∀c o,c≠z->c≠TO->c≠i1->s.heap.get? c=some o->H3.get? c=some o:=fun c o c1 c2 c3 e=>s3.extBut _ _ c2 (s2.extBut _ _ c3 (s1.extBut _ _ c1 e))
 refine wpAny_bind (wpAny_nextOf_list_item (h2.at fun o e=>up3 _ o (Ne.symm zi2) (Ne.symm TOi2) (Ne.symm i12) e) (Heap.IsList.at hl2 fun o e=>up3 _ o l2z l2TO l2i1 e) hy fun H4 q4 s4=>wpAny_pure ?_)
 have t4:IsTri H4 TO x b c:=s4.extBut _ _ TOi2 t3
 refine wpAny_bind (wpAny_seqItems t4 rfl ?_)
 refine wpAny_bind (iX_ t4 fun H5 t5 s5=>?_)
 replace t5:IsTri H5 TO x y c:=t5
 refine wpAny_bind (wpAny_letGo (wpAny_pure ?_))
 refine wpAny_bind (wpAny_bind (wpAny_onRaise ?_))
 show wpAny _ _ (Builtin.SmallTypes.nextOf (.ref i3)>>=_) _ _ _
 have up5:∀c o,c≠z->c≠TO->c≠i1->c≠i2->s.heap.get? c=some o->H5.get? c=some o:=fun c o c1 c2 c3 c4 e=>s5.extBut _ _ c2 (s4.extBut _ _ c4 (up3 c o c1 c2 c3 e))
 refine wpAny_bind (wpAny_nextOf_list_item (h3.at fun o e=>up5 _ o (Ne.symm zi3) (Ne.symm TOi3) (Ne.symm i13) (Ne.symm i23) e) (Heap.IsList.at hl3 fun o e=>up5 _ o l3z l3TO l3i1 l3i2 e) hu fun H6 q6 s6=>wpAny_pure ?_)
 have t6:IsTri H6 TO x y c:=s6.extBut _ _ TOi3 t5
 refine wpAny_bind (wpAny_seqItems t6 rfl ?_)
 refine wpAny_bind (iX_ t6 fun H7 t7 s7=>?_)
 replace t7:IsTri H7 TO x y u:=t7
 refine wpAny_bind (wpAny_letGo (wpAny_pure (wpAny_pure ?_)))
 refine wpAny_bind (wpAny_seqItems t7 rfl ?_)
 refine wpAny_bind (wpAny_newTuple ?_)
 have hsz:H7.objs.size=s.heap.objs.size:=by rw[s7.1,s6.1,s5.1,s4.1,s3.1,s2.1,s1.1]
 have z3:IsZip H3 z TI TO .ellipsis:=s3.extBut _ _ zTO (s2.extBut _ _ zi1 hz1)
 have z7:IsZip H7 z TI TO .ellipsis:=s7.extBut _ _ zTO (s6.extBut _ _ zi3 (s5.extBut _ _ zTO (s4.extBut _ _ zi2 z3)))
 have up7:∀c o,c∉[z,TO,i1,i2,i3]->s.heap.get? c=some o->H7.get? c=some o:=fun c o hc e=>by
  simp only[List.mem_cons,List.not_mem_nil,or_false,not_or] at hc
  obtain⟨c1,c2,c3,c4,c5⟩:=hc
  exact s7.extBut _ _ c2 (s6.extBut _ _ c5 (up5 c o c1 c2 c3 c4 e))
 have r1:H7.IsListIter i1 l1 (k1+1):=q2.at fun o e=>s7.extBut _ _ (Ne.symm TOi1) (s6.extBut _ _ i13 (s5.extBut _ _ (Ne.symm TOi1) (s4.extBut _ _ i12 (s3.extBut _ _ (Ne.symm TOi1) e))))
 have r2:H7.IsListIter i2 l2 (k2+1):=q4.at fun o e=>s7.extBut _ _ (Ne.symm TOi2) (s6.extBut _ _ i23 (s5.extBut _ _ (Ne.symm TOi2) e))
 have r3:H7.IsListIter i3 l3 (k3+1):=q6.at fun o e=>s7.extBut _ _ (Ne.symm TOi3) e
 have zlt:z<H7.objs.size:=Heap.lt_size z7
 show wpAny _ _ (Builtin.SmallTypes.ownedTupleHandOut (.ref z) (.ref H7.objs.size)>>=_) _ _ _
 refine wpAny_bind ?_
 unfold Builtin.SmallTypes.ownedTupleHandOut
 have z8:IsZip (H7.push {cls:=.type "tuple",data:=.seq #[x,y,u]}) z TI TO .ellipsis:=Heap.get?_push_of_some _ z7
 refine wpAny_bind (wpAny_setField_rec z8 (by simp) fun H8 w8 s8=>?_)
 replace w8:IsZip H8 z TI TO (rawInt H7.objs.size):=w8
 refine wpAny_setField_rec w8 (by simp) fun H9 w9 s9=>?_
 replace w9:IsZip H9 z TI TO (rawInt H7.objs.size):=w9
 have up:∀c o,c≠z->H7.get? c=some o->H9.get? c=some o:=fun c o c1 e=>s9.extBut _ _ c1 (s8.extBut _ _ c1 (Heap.get?_push_of_some _ e))
 have t9:IsTri H9 H7.objs.size x y u:=s9.extBut _ _ (Nat.ne_of_gt zlt) (s8.extBut _ _ (Nat.ne_of_gt zlt) (Heap.get?_push_size _ rfl))
 have zz:H9.objs.size=H7.objs.size+1:=by rw[s9.1,s8.1,Heap.size_push]
 rw[hsz] at w9 t9 zz
 refine wpAny_pure ⟨_,rfl,?_⟩
 show Q (.ref H7.objs.size) _
 rw[hsz]
 exact hQ H9 w9 (up _ _ (Ne.symm zTO) t7) (r1.at fun o e=>up _ o (Ne.symm zi1) e) (r2.at fun o e=>up _ o (Ne.symm zi2) e) (r3.at fun o e=>up _ o (Ne.symm zi3) e) t9 zz fun c o hc e=>up c o (fun q=>hc (by simp[q])) (up7 c o hc e)
end
section
variable{prog:Program}{w:World}{A:Around}{E:Value->Shared->Prop}{s:Shared}
theorem kj_{z TI TO i1 i2 i3 l1 l2 l3:Addr}{k1:Nat}{xs:Array Value}{a b c:Value}{Q:Fin->Shared->Prop}(hh:A.handled=none)(D:Zd z TI TO i1 i2 i3 l1 l2 l3)
  (hz:IsZip s.heap z TI TO .none) (hTI:IsTri s.heap TI (.ref i1) (.ref i2) (.ref i3)) (hTO:IsTri s.heap TO a b c)
  (h1:s.heap.IsListIter i1 l1 k1) (hl1:s.heap.IsList l1 xs) (hend:xs[k1]?=none)
  (hE:∀h' e,(∀c o,c∉[z,TO,i1,i2,i3]->s.heap.get? c=some o->h'.get? c=some o)->(∃o,h'.get? e=some o/\o.cls=.type "StopIteration")->E (.ref e) {s with heap:=h'}) :
  wpAny (model prog w) A (Builtin.«zip.__next__» ⟨[.ref z],[]⟩) Q E s:=by
 have nd:=D.nd
 simp only[List.nodup_cons,List.mem_cons,List.not_mem_nil,or_false,not_or,not_false_eq_true,List.nodup_nil,and_true] at nd
 obtain⟨⟨zTI,zTO,zi1,zi2,zi3⟩,⟨TITO,TIi1,TIi2,TIi3⟩,⟨TOi1,TOi2,TOi3⟩,⟨i12,i13⟩,i23⟩:=nd
 have f1:=D.f1
 simp only[List.mem_cons,List.not_mem_nil,or_false,not_or] at f1
 obtain⟨l1z,l1TO,l1i1,l1i2,l1i3⟩:=f1
 show wpAny _ _ (field (.ref z) 2>>=_) _ _ _
 refine wpAny_bind (wpAny_field hz rfl (x:=.bool false) rfl ?_)
 show wpAny _ _ (field (.ref z) 3>>=_) _ _ _
 refine wpAny_bind (wpAny_field hz rfl (x:=.ref TI) rfl ?_)
 refine wpAny_bind (wpAny_seqItems hTI rfl ?_)
 show wpAny _ _ (Builtin.SmallTypes.ownedTupleIsFree (.ref z)>>=_) _ _ _
 refine wpAny_bind ?_
 unfold Builtin.SmallTypes.ownedTupleIsFree
 refine wpAny_bind (wpAny_field hz rfl (x:=.none) rfl (wpAny_pure ?_))
 simp only[if_true]
 refine wpAny_bind (wpAny_rule ?_)
 refine wpAny_bind (wpAny_field hz rfl (x:=.ref TO) rfl ?_)
 refine wpAny_bind (wpAny_setField_rec hz (by simp) fun H1 hz1 s1=>?_)
 replace hz1:IsZip H1 z TI TO .ellipsis:=hz1
 refine wpAny_bind ?_
 simp only[List.zipIdx_cons,List.zipIdx_nil,List.forIn_cons,List.forIn_nil]
 refine wpAny_bind (wpAny_bind (wpAny_onRaise ?_))
 show wpAny _ _ (Builtin.SmallTypes.nextOf (.ref i1)>>=_) _ _ _
 refine wpAny_bind (wpAny_nextOf_list_end hh (h1.extBut s1.extBut (Ne.symm zi1)) (hl1.extBut s1.extBut l1z) hend fun H2 e s2 he=>?_)
 obtain⟨oe,hoe,hce⟩:=he
 have hz2:IsZip H2 z TI TO .ellipsis:=s2 _ _ zi1 hz1
 have hez:e≠z:=fun x=>by subst x;rw[hz2] at hoe;cases hoe;simp at hce
 refine wpAny_setField_rec hz2 (by simp) fun H3 _ s3=>hE H3 e (fun c o hc x=>?_) ⟨oe,s3.extBut _ _ hez hoe,hce⟩
 simp only[List.mem_cons,List.not_mem_nil,or_false,not_or] at hc
 exact s3.extBut _ _ hc.1 (s2 _ _ hc.2.2.1 (s1.extBut _ _ hc.1 x))
theorem fi_{z TI TO i1 i2 i3 l1 l2 l3:Addr}{k1 k2 k3:Nat}{xs ys zs:Array Value}{x y u a b c:Value}{Q:Option Value->Shared->Prop}(D:Zd z TI TO i1 i2 i3 l1 l2 l3)
  (hz:IsZip s.heap z TI TO .none) (hTI:IsTri s.heap TI (.ref i1) (.ref i2) (.ref i3)) (hTO:IsTri s.heap TO a b c)
  (h1:s.heap.IsListIter i1 l1 k1) (h2:s.heap.IsListIter i2 l2 k2) (h3:s.heap.IsListIter i3 l3 k3) (hl1:s.heap.IsList l1 xs) (hl2:s.heap.IsList l2 ys) (hl3:s.heap.IsList l3 zs) (hx:xs[k1]?=some x) (hy:ys[k2]?=some y) (hu:zs[k3]?=some u)
  (hQ:∀h',IsZip h' z TI TO (rawInt s.heap.objs.size)->IsTri h' TO x y u->h'.IsListIter i1 l1 (k1+1)->h'.IsListIter i2 l2 (k2+1)->h'.IsListIter i3 l3 (k3+1)->IsTri h' s.heap.objs.size x y u->h'.objs.size=s.heap.objs.size+1->
   (∀c o,c∉[z,TO,i1,i2,i3]->s.heap.get? c=some o->h'.get? c=some o)->Q (some (.ref s.heap.objs.size)) {s with heap:=h'}) :
  wpAny (model prog w) A (pyNext (.ref z)) Q E s:=by
 have hT:s.TypeIs (.ref z) "zip":=⟨_,hz,rfl⟩
 unfold pyNext
 exact wpAny_bind (wpAny_attempt (wpAny_callSpecial?_slot (name:=Str.ofString "__next__") hT F.slot_zip_next
  (wpAny_call_entry F.slot_zip_next hT F.entry_zip_next
   (iA_ D hz hTI hTO h1 h2 h3 hl1 hl2 hl3 hx hy hu fun h' a1 a2 a3 a4 a5 a6 a7 a8=>wpAny_pure (hQ h' a1 a2 a3 a4 a5 a6 a7 a8)) (F.args_zip_next_1 _))))
theorem gv_{z TI TO i1 i2 i3 l1 l2 l3:Addr}{k1:Nat}{xs:Array Value}{a b c:Value}{Q:Option Value->Shared->Prop}(hh:A.handled=none)(D:Zd z TI TO i1 i2 i3 l1 l2 l3)
  (hz:IsZip s.heap z TI TO .none) (hTI:IsTri s.heap TI (.ref i1) (.ref i2) (.ref i3)) (hTO:IsTri s.heap TO a b c)
  (h1:s.heap.IsListIter i1 l1 k1) (hl1:s.heap.IsList l1 xs) (hend:xs[k1]?=none)
  (hQ:∀h',(∀c o,c∉[z,TO,i1,i2,i3]->s.heap.get? c=some o->h'.get? c=some o)->Q none {s with heap:=h'}):wpAny (model prog w) A (pyNext (.ref z)) Q E s:=by
 have hT:s.TypeIs (.ref z) "zip":=⟨_,hz,rfl⟩
 unfold pyNext
 refine wpAny_bind (wpAny_attempt (wpAny_callSpecial?_slot (name:=Str.ofString "__next__") hT F.slot_zip_next
  (wpAny_call_entry F.slot_zip_next hT F.entry_zip_next (kj_ hh D hz hTI hTO h1 hl1 hend fun h' e hk he=>?_) (F.args_zip_next_1 _))))
 obtain⟨o,ho,hc⟩:=he
 refine wpAny_bind (wpAny_isInstance (T:="StopIteration") (b:=true) ⟨o,ho,hc⟩ isSubtype_stop ?_)
 exact wpAny_pure (hQ _ hk)
end
abbrev z3a(h:Heap)(l1:Addr):Heap:=h.push {cls:=.type "list_iterator",data:=.fields #[.ref l1,.int 0 0]}
abbrev z3b(h:Heap)(l1 l2:Addr):Heap:=(z3a h l1).push {cls:=.type "list_iterator",data:=.fields #[.ref l2,.int 0 0]}
abbrev z3c(h:Heap)(l1 l2 l3:Addr):Heap:=(z3b h l1 l2).push {cls:=.type "list_iterator",data:=.fields #[.ref l3,.int 0 0]}
abbrev z3d(h:Heap)(l1 l2 l3:Addr):Heap:=(z3c h l1 l2 l3).push {cls:=.type "tuple",data:=.seq #[.ref h.objs.size,.ref (z3a h l1).objs.size,.ref (z3b h l1 l2).objs.size]}
abbrev z3e(h:Heap)(l1 l2 l3:Addr):Heap:=(z3d h l1 l2 l3).push {cls:=.type "tuple",data:=.seq #[.none,.none,.none]}
abbrev z3f(h:Heap)(l1 l2 l3:Addr):Heap:=(z3e h l1 l2 l3).push {cls:=.type "zip",data:=.fields #[.none,.bool false,.bool false,.ref (z3c h l1 l2 l3).objs.size,.ref (z3d h l1 l2 l3).objs.size]}
theorem iD_(l1 l2 l3:Addr)(xs ys zs:Array Value) :
  Meets (Builtin.«zip.__new__» ⟨[.type "zip",.ref l1,.ref l2,.ref l3],[]⟩) (fun _ R s=>s.heap.IsList l1 xs/\s.heap.IsList l2 ys/\s.heap.IsList l3 zs/\
   R (.ok (.ret (.ref (z3e s.heap l1 l2 l3).objs.size))) {s with heap:=z3f s.heap l1 l2 l3}) :=
 .of_wp fun prog w A R s h=>by
  obtain⟨hp,g,d,tk,os⟩:=s;obtain⟨hl1,hl2,hl3,h⟩:=h
  have hsub:=sub_zip
  have hL1:Heap.IsList (Shared.heap ⟨hp,g,d,tk,os⟩) l1 xs:=hl1
  have hL2:Heap.IsList (Shared.heap ⟨hp.push {cls:=.type "list_iterator",data:=.fields #[.ref l1,.int 0 0]},g,d,tk,os⟩) l2 ys:=Heap.IsList.push hl2 _
  have hL3:Heap.IsList (Shared.heap ⟨(hp.push {cls:=.type "list_iterator",data:=.fields #[.ref l1,.int 0 0]}).push {cls:=.type "list_iterator",data:=.fields #[.ref l2,.int 0 0]},g,d,tk,os⟩) l3 zs:=Heap.IsList.push (Heap.IsList.push hl3 _) _
  wp_walk using wpAny_pyIter_list hL1,wpAny_pyIter_list hL2,wpAny_pyIter_list hL3
  exact⟨_,rfl,h⟩
theorem nd6(n:Nat):List.Nodup [n+5,n+3,n+4,n,n+1,n+2]:=by
 simp only[List.nodup_cons,List.mem_cons,List.not_mem_nil,or_false,not_or,not_false_eq_true,List.nodup_nil,and_true]
 refine⟨⟨?_,?_,?_,?_,?_⟩,⟨?_,?_,?_,?_⟩,⟨?_,?_,?_⟩,⟨?_,?_⟩,?_⟩ <;> lia
theorem op_{n l1 l2 l3:Addr}(h1:l1<n)(h2:l2<n)(h3:l3<n):Zd (n+5) (n+3) (n+4) n (n+1) (n+2) l1 l2 l3:=by
 have h1':(l1:Nat)<n:=h1
 have h2':(l2:Nat)<n:=h2
 have h3':(l3:Nat)<n:=h3
 have key:∀l:Nat,l<n->l∉[(n:Nat)+5,n+4,n,n+1,n+2]:=fun l hl z=>by
  simp only[List.mem_cons,List.not_mem_nil,or_false] at z
  lia
 refine⟨?_,key l1 h1,key l2 h2,key l3 h3⟩
 exact nd6 n
section
variable{prog:Program}{w:World}{A:Around}{E:Value->Shared->Prop}{s:Shared}
theorem iL_{l1 l2 l3:Addr}{xs ys zs:Array Value}{Q:Value->Shared->Prop}(hl1:s.heap.IsList l1 xs)(hl2:s.heap.IsList l2 ys)(hl3:s.heap.IsList l3 zs)
  (h:∀h',IsZip h' (s.heap.objs.size+5) (s.heap.objs.size+3) (s.heap.objs.size+4) .none->IsTri h' (s.heap.objs.size+3) (.ref s.heap.objs.size) (.ref (s.heap.objs.size+1)) (.ref (s.heap.objs.size+2))->
   IsTri h' (s.heap.objs.size+4) .none .none .none->h'.IsListIter s.heap.objs.size l1 0->h'.IsListIter (s.heap.objs.size+1) l2 0->h'.IsListIter (s.heap.objs.size+2) l3 0->
   (∀c o,s.heap.get? c=some o->h'.get? c=some o)->Q (.ref (s.heap.objs.size+5)) {s with heap:=h'}) :
  wpAny (model prog w) A (call (.type "zip") [.ref l1,.ref l2,.ref l3]) Q E s:=by
 refine callType_new F.called_zip (by decide) (dn_ _ _ _) (ex_ _ _ _) (fun obj=>hc_ obj _ _ _) F.entry_zip_new
  (iD_ l1 l2 l3 xs ys zs) ⟨hl1,hl2,hl3,?_⟩
 have e1:(z3a s.heap l1).objs.size=s.heap.objs.size+1:=Heap.size_push ..
 have e2:(z3b s.heap l1 l2).objs.size=s.heap.objs.size+2:=by rw[Heap.size_push,e1]
 have e3:(z3c s.heap l1 l2 l3).objs.size=s.heap.objs.size+3:=by rw[Heap.size_push,e2]
 have e4:(z3d s.heap l1 l2 l3).objs.size=s.heap.objs.size+4:=by rw[Heap.size_push,e3]
 have e5:(z3e s.heap l1 l2 l3).objs.size=s.heap.objs.size+5:=by rw[Heap.size_push,e4]
 have g6:(z3f s.heap l1 l2 l3).get? (z3e s.heap l1 l2 l3).objs.size=some _:=Heap.get?_push_size _ rfl
 have g5:(z3f s.heap l1 l2 l3).get? (z3d s.heap l1 l2 l3).objs.size=some _:=Heap.get?_push_of_some _ (Heap.get?_push_size _ rfl)
 have g4:(z3f s.heap l1 l2 l3).get? (z3c s.heap l1 l2 l3).objs.size=some _:=Heap.get?_push_of_some _ (Heap.get?_push_of_some _ (Heap.get?_push_size _ rfl))
 have g3:(z3f s.heap l1 l2 l3).get? (z3b s.heap l1 l2).objs.size=some _:=Heap.get?_push_of_some _ (Heap.get?_push_of_some _ (Heap.get?_push_of_some _ (Heap.get?_push_size _ rfl)))
 have g2:(z3f s.heap l1 l2 l3).get? (z3a s.heap l1).objs.size=some _:=Heap.get?_push_of_some _ (Heap.get?_push_of_some _ (Heap.get?_push_of_some _ (Heap.get?_push_of_some _ (Heap.get?_push_size _ rfl))))
 have g1:(z3f s.heap l1 l2 l3).get? s.heap.objs.size=some _:=Heap.get?_push_of_some _ (Heap.get?_push_of_some _ (Heap.get?_push_of_some _ (Heap.get?_push_of_some _ (Heap.get?_push_of_some _ (Heap.get?_push_size _ rfl)))))
 show _/\_
 rw[e3,e4,e5] at g6
 rw[e1,e2,e3] at g4
 rw[e4] at g5
 rw[e2] at g3
 rw[e1] at g2
 rw[e5]
 exact⟨⟨_,g6,rfl⟩,h _ g6 g4 g5 ⟨_,g1,rfl,rfl⟩ ⟨_,g2,rfl,rfl⟩ ⟨_,g3,rfl,rfl⟩ fun c o x =>
  Heap.get?_push_of_some _ (Heap.get?_push_of_some _ (Heap.get?_push_of_some _ (Heap.get?_push_of_some _ (Heap.get?_push_of_some _ (Heap.get?_push_of_some _ x)))))⟩
end
def Itz3(K:PySem.W.Frag)(a b c:Addr):It :=
 ⟨fun i H=>∃xs ys zs x y u,SqL K H a xs/\SqL K H b ys/\SqL K H c zs/\xs[i]?=some x/\ys[i]?=some y/\zs[i]?=some u,
  fun i H v H'=>∃t x y u,v=.ref t/\H t=none/\(∀xs,SqL K H a xs->xs[i]?=some x)/\(∀ys,SqL K H b ys->ys[i]?=some y)/\(∀zs,SqL K H c zs->zs[i]?=some u)/\H'=upd H t (.tup [x,y,u]),
  fun i H=>∃xs,SqL K H a xs/\xs.length<=i⟩
theorem ja_{P:Program}{w:World}{K:PySem.W.Frag}{elts:List Expr}{x1}{pos:Pos}(a b c z TI TO i1 i2 i3:Addr)(D:Zd z TI TO i1 i2 i3 a b c):Turn P w K (.Tuple elts x1 pos) (Itz3 K a b c) [z,TI,TO,i1,i2,i3] z
  (fun i h=>IsZip h z TI TO .none/\IsTri h TI (.ref i1) (.ref i2) (.ref i3)/\(∃u v t,IsTri h TO u v t)/\h.IsListIter i1 a i/\h.IsListIter i2 b i/\h.IsListIter i3 c i) where
 mem:=by simp
 obj:=fun i h st e hb=>by
  obtain⟨h1,h2,⟨u,v,t,h3⟩,⟨o4,h4,_,d4⟩,⟨o5,h5,_,d5⟩,⟨o6,h6,_,d6⟩⟩:=st
  simp only[List.mem_cons,List.not_mem_nil,or_false] at hb
  rcases hb with rfl | rfl | rfl | rfl | rfl | rfl
  ·exact⟨_,h1,fun v z=>by cases z⟩
  ·exact⟨_,h2,fun v z=>by cases z⟩
  ·exact⟨_,h3,fun v z=>by cases z⟩
  ·exact⟨o4,h4,fun v z=>by rw[d4] at z;cases z⟩
  ·exact⟨o5,h5,fun v z=>by rw[d5] at z;cases z⟩
  ·exact⟨o6,h6,fun v z=>by rw[d6] at z;cases z⟩
 keep:=fun i h h' st k=>by
  obtain⟨h1,h2,⟨u,v,t,h3⟩,h4,h5,h6⟩:=st
  exact⟨k z (by simp) _ h1,k TI (by simp) _ h2,⟨u,v,t,k TO (by simp) _ h3⟩,h4.at fun o q=>k i1 (by simp) o q,h5.at fun o q=>k i2 (by simp) o q,h6.at fun o q=>k i3 (by simp) o q⟩
 item:=by
  intro X hP hw hK hc i pins s σ H E I hf st hg
  subst hP hw hK
  have nd:=D.nd
  simp only[List.nodup_cons,List.mem_cons,List.not_mem_nil,or_false,not_or,not_false_eq_true,List.nodup_nil,and_true] at nd
  obtain⟨⟨zTI,zTO,zi1,zi2,zi3⟩,⟨TITO,TIi1,TIi2,TIi3⟩,⟨TOi1,TOi2,TOi3⟩,⟨i12,i13⟩,i23⟩:=nd
  obtain⟨h1,h2,⟨u0,v0,t0,h3⟩,h4,h5,h6⟩:=st
  obtain⟨xs,ys,zs,x,y,y3,hqa,hqb,hqc,hx,hy,hy3⟩:=hg
  obtain⟨its,rv,p,hz⟩:=I.list hqa
  obtain⟨jts,rw',p',hz'⟩:=I.list hqb
  obtain⟨kts,rx',p3,hz3⟩:=I.list hqc
  obtain⟨u,hu,ru⟩:=rv.get hx
  obtain⟨v,hv,rv'⟩:=rw'.get hy
  obtain⟨t,ht,rt'⟩:=rx'.get hy3
  have e1:=Heap.lt_size h1
  have fpo:∀e∈[z,TI,TO,i1,i2,i3],∃o,s.heap.get? e=some o:=fun e hb=>by
   obtain⟨o4,q4,_⟩:=h4
   obtain⟨o5,q5,_⟩:=h5
   obtain⟨o6,q6,_⟩:=h6
   simp only[List.mem_cons,List.not_mem_nil,or_false] at hb
   rcases hb with rfl | rfl | rfl | rfl | rfl | rfl
   ·exact⟨_,h1⟩
   ·exact⟨_,h2⟩
   ·exact⟨_,h3⟩
   ·exact⟨_,q4⟩
   ·exact⟨_,q5⟩
   ·exact⟨_,q6⟩
  refine fi_ D h1 h2 h3 h4 h5 h6 p.isList p'.isList p3.isList (x:=u) (y:=v) (u:=t) (by simpa using hu) (by simpa using hv) (by simpa using ht) fun h' g1 g2 g3 g4 g4' g5 g6 g7=>⟨_,rfl,?_⟩
  refine wpAny_letOwnedTupleGo_zip g1 fun h2' g8 g9=>?_
  have kk:∀e o,e∉[z,TI,TO,i1,i2,i3]->s.heap.get? e=some o->h2'.get? e=some o:=fun e o hb q=>by
   simp only[List.mem_cons,List.not_mem_nil,or_false,not_or] at hb
   exact g9.extBut e o hb.1 (g7 e o (by simp only[List.mem_cons,List.not_mem_nil,or_false,not_or];exact⟨hb.1,hb.2.2.1,hb.2.2.2.1,hb.2.2.2.2.1,hb.2.2.2.2.2⟩) q)
  have tT:h2'.get? s.heap.objs.size=some {cls:=.type "tuple",data:=.seq #[u,v,t]}:=g9.extBut _ _ (Nat.ne_of_gt e1) g5
  have I1:=I.turnedNew (t':=s.toks) (T:=s.heap.objs.size) (o:=.tup [x,y,y3]) kk hf (Nat.le_refl _) ⟨by show 3<=sizeLine;decide,[u,v,t],.cons ru (.cons rv' (.cons rt' .nil)),⟨_,tT,rfl,_,rfl⟩⟩
  have hn:H s.heap.objs.size=none:=I.hok.fresh (Nat.le_refl _)
  refine⟨.ref s.heap.objs.size,_,I1,rfl,⟨_,x,y,y3,rfl,hn,fun zs hy'=>by rw[I.list_inj hy' hqa];exact hx,fun zs hy'=>by rw[I.list_inj hy' hqb];exact hy,fun zs hy'=>by rw[I.list_inj hy' hqc];exact hy3,rfl⟩,⟨g8,?_,⟨u,v,t,?_⟩,?_,?_,?_⟩,fun e hb=>?_⟩
  ·exact g9.extBut _ _ (Ne.symm zTI) (g7 _ _ (by simp only[List.mem_cons,List.not_mem_nil,or_false,not_or];exact⟨Ne.symm zTI,TITO,TIi1,TIi2,TIi3⟩) h2)
  ·exact g9.extBut _ _ (Ne.symm zTO) g2
  ·exact g3.extBut g9.extBut (Ne.symm zi1)
  ·exact g4.extBut g9.extBut (Ne.symm zi2)
  ·exact g4'.extBut g9.extBut (Ne.symm zi3)
  ·obtain⟨f0,_⟩:=hf e hb
   obtain⟨o,q⟩:=fpo e hb
   rw[l_ (Nat.ne_of_lt (Heap.lt_size q))];exact f0
 done:=by
  intro X hP hw hK hc i pins s σ H E I hf st hg
  subst hP hw hK
  obtain⟨h1,h2,⟨u0,v0,t0,h3⟩,h4,h5,h6⟩:=st
  obtain⟨xs,hqa,hx⟩:=hg
  obtain⟨its,rv,p,hz⟩:=I.list hqa
  have hl:=rv.length
  refine gv_ (I.ok.hd hc) D h1 h2 h3 h4 p.isList (by simp;lia) fun h' eb=>⟨rfl,I.turnedL (t':=s.toks) (ch:=[z,TI,TO,i1,i2,i3]) (fun e o hb q=>eb e o (fun z'=>hb ?_) q) hf⟩
  simp only[List.mem_cons,List.not_mem_nil,or_false] at z'⊢
  rcases z' with r | r | r | r | r <;> simp[r]
 self:=fun _ _ _ _ _ st h=>wpAny_pyIter_zip st.1 h
section
variable{X:Cx}{l l2 l3:Expr}{tl tl2 tl3:TE}{elts:List Expr}{p pos tpos:Pos}
def iZip3(K:PySem.W.Frag)(tl tl2 tl3:TE):TI:=fun σ H R=>tl σ H fun x H1=>tl2 σ H1 fun y H2=>tl3 σ H2 fun u H3=>∃a b c,x=.ref a/\y=.ref b/\u=.ref c/\(∃xs,SqL K H3 a xs)/\(∃ys,SqL K H3 b ys)/\(∃zs,SqL K H3 c zs)/\R (Itz3 K a b c) H3
theorem nE_{x1}(hg:Gl X "zip")(hm:X.mg "zip"=none)(hl:PE X l tl)(hl2:PE X l2 tl2)(hl3:PE X l3 tl3)(hs:starEach [l,l2,l3] X.env=[(false,eval l X.env),(false,eval l2 X.env),(false,eval l3 X.env)]:=by rfl)(hs2:starEach [l2,l3] X.env=[(false,eval l2 X.env),(false,eval l3 X.env)]:=by rfl) :
  PI X (.Tuple elts x1 tpos) (.Call (.Name "zip" p) [l,l2,l3] [] pos) (iZip3 X.K tl tl2 tl3):=by
 intro pins s σ H R I h
 refine Call_ (aP_ I hg hm boot_zip (PyProof.Rows.callWith_type1 ?_ (by rw[hs,hs2]) (by rw[hs2];rfl)))
 rw[hs]
 show wpAny _ _ (spliced ((false,eval l X.env)::(false,eval l2 X.env)::(false,eval l3 X.env)::backTo pos (starEach [] X.env))) _ _ s
 refine Calls.spliced_cons (thn (hl pins s σ H _ I h) fun u s1 ⟨x,H1,I1,r1,q1⟩=>Calls.spliced_cons (thn (hl2 pins s1 σ H1 _ I1 q1) fun u2 s2 ⟨y,H2,I2,r2,q2⟩=>Calls.spliced_cons (thn (hl3 pins s2 σ H2 _ I2 q2) fun u3 s3 ⟨y3,H3,I3,r3,q3⟩=>Calls.spliced_nil ?_)))
 obtain⟨a,b,c,rfl,rfl,rfl,⟨xs,hqa⟩,⟨ys,hqb⟩,⟨zs,hqc⟩,q⟩:=q3
 cases r1
 cases r2
 cases r3
 obtain⟨its,rv,pl,hz⟩:=I3.list hqa
 obtain⟨jts,rv',pl',hz'⟩:=I3.list hqb
 obtain⟨kts,rv3,pl3,hz3⟩:=I3.list hqc
 have la:a<s3.heap.objs.size:=by obtain⟨_,e,_⟩:=pl.isList;exact Heap.lt_size e
 have lb:b<s3.heap.objs.size:=by obtain⟨_,e,_⟩:=pl'.isList;exact Heap.lt_size e
 have lc:c<s3.heap.objs.size:=by obtain⟨_,e,_⟩:=pl3.isList;exact Heap.lt_size e
 refine iL_ pl.isList pl'.isList pl3.isList fun h' g1 g2 g3 g4 g5 g6 g7=>?_
 have D:=op_ la lb lc
 have T:=ja_ (P:=X.prog) (w:=X.w) (K:=X.K) (elts:=elts) (x1:=x1) (pos:=tpos) a b c _ _ _ _ _ _ D
 refine T.self _ 0 _ _ _ ⟨g1,g2,⟨_,_,_,g3⟩,g4,g5,g6⟩ ?_
 refine⟨s3.heap.objs.size+5,_,_,_,H3,rfl,I3.kept (t':=s3.toks) g7,T,⟨g1,g2,⟨_,_,_,g3⟩,g4,g5,g6⟩,fun e hb=>?_,q⟩
 have hb':s3.heap.objs.size<=e:=by
  simp only[List.mem_cons,List.not_mem_nil,or_false] at hb
  rcases hb with rfl | rfl | rfl | rfl | rfl | rfl
  ·exact Nat.le_add_right _ _
  ·exact Nat.le_add_right _ _
  ·exact Nat.le_add_right _ _
  ·exact Nat.le_refl _
  ·exact Nat.le_add_right _ _
  ·exact Nat.le_add_right _ _
 exact I3.fpOk hb' (I3.hok.fresh hb')
end
theorem md_{K:PySem.W.Frag}{a b c:Addr}{xs ys zs:List V}{g:TG}{tb:TS}{D:Ends}{σ:St}{H:Hp}(Pv:Nat->St->Hp->Prop)(hlen:xs.length=ys.length)(hlen2:xs.length=zs.length)(h0:Pv 0 σ H)(hl:∀i σ H,i<=xs.length->Pv i σ H->SqL K H a xs/\SqL K H b ys/\SqL K H c zs)
  (hs:∀i x y u σ H t,xs[i]?=some x->ys[i]?=some y->zs[i]?=some u->Pv i σ H->H t=none->g (.ref t) σ (upd H t (.tup [x,y,u])) fun σ2 H2=>tb {D with nx:=Pv (i+1),ct:=Pv (i+1),bk:=D.nx} σ2 H2) (hd:∀ σ H,Pv xs.length σ H->D.nx σ H) :
  ∃W:Nat->Nat->St->Hp->Prop,(∃m,W 0 m σ H)/\∀i m σ H,W i m σ H->
   ((Itz3 K a b c).stop i H/\D.nx σ H)\/((Itz3 K a b c).go i H/\∃N:St->Hp->Prop,(∀ σ' H',N σ' H'->∃m',m'<m/\W (i+1) m' σ' H')/\∀x H',(Itz3 K a b c).yld i H x H'->g x σ H' fun σ2 H2=>tb {D with nx:=N,ct:=N,bk:=D.nx} σ2 H2):=by
 refine⟨fun i m σ H=>m=xs.length-i/\i<=xs.length/\Pv i σ H,⟨xs.length,by simp,Nat.zero_le _,h0⟩,?_⟩
 rintro i m σ H ⟨rfl,hi,p⟩
 obtain⟨q1,q2,q3⟩:=hl i σ H hi p
 by_cases hlt:i<xs.length
 ·have e1:xs[i]?=some xs[i]:=by simp[hlt]
  have e2:ys[i]?=some (ys[i]'(by lia)):=by simp
  have e3:zs[i]?=some (zs[i]'(by lia)):=by simp
  refine .inr ⟨⟨xs,ys,zs,_,_,_,q1,q2,q3,e1,e2,e3⟩,Pv (i+1),fun σ' H' p'=>⟨xs.length-(i+1),by lia,rfl,hlt,p'⟩,fun v H' y=>?_⟩
  obtain⟨t,x,y,u,rfl,ht,y1,y2,y3,rfl⟩:=y
  exact hs i x y u σ H t (y1 xs q1) (y2 ys q2) (y3 zs q3) p ht
 ·have e:i=xs.length:=by lia
  subst e
  exact .inl ⟨⟨xs,q1,Nat.le_refl _⟩,hd σ H p⟩
theorem kV_{K:PySem.W.Frag}{a b:Addr}{xs ys:List V}{G:V->Hp->(List V->Hp->Prop)->List V->Prop}{Fin:List V->Hp->Prop}{H:Hp}(Pv:Nat->List V->Hp->Prop)(hlen:xs.length<=ys.length)(h0:Pv 0 [] H)
  (hl:∀i zs H,i<=xs.length->Pv i zs H->SqL K H a xs/\SqL K H b ys) (hz:∀i zs H,i<xs.length->Pv i zs H->zs.length<sizeLine)
  (hs:∀i x y zs H t,xs[i]?=some x->ys[i]?=some y->Pv i zs H->H t=none->G (.ref t) (upd H t (.tup [x,y])) (Pv (i+1)) zs) (hd:∀zs H,Pv xs.length zs H->Fin zs H) :
  ∃W:Nat->Nat->List V->Hp->Prop,(∃m,W 0 m [] H)/\∀i m zs H,W i m zs H->
   ((Itz K a b).stop i H/\Fin zs H)\/((Itz K a b).go i H/\zs.length<sizeLine/\∃Nx:List V->Hp->Prop,(∀ys' H',Nx ys' H'->∃m',m'<m/\W (i+1) m' ys' H')/\∀x H',(Itz K a b).yld i H x H'->G x H' Nx zs):=by
 refine⟨fun i m zs H=>m=xs.length-i/\i<=xs.length/\Pv i zs H,⟨xs.length,by simp,Nat.zero_le _,h0⟩,?_⟩
 rintro i m zs H ⟨rfl,hi,p⟩
 obtain⟨q1,q2⟩:=hl i zs H hi p
 by_cases hlt:i<xs.length
 ·have e1:xs[i]?=some xs[i]:=by simp[hlt]
  have e2:ys[i]?=some (ys[i]'(by lia)):=by simp
  refine .inr ⟨⟨xs,ys,_,_,q1,q2,e1,e2⟩,hz i zs H hlt p,Pv (i+1),fun ys' H' p'=>⟨xs.length-(i+1),by lia,rfl,hlt,p'⟩,fun v H' y=>?_⟩
  obtain⟨t,x,y,rfl,ht,y1,y2,rfl⟩:=y
  exact hs i x y zs H t (y1 xs q1) (y2 ys q2) p ht
 ·have e:i=xs.length:=by lia
  subst e
  exact .inl ⟨⟨xs,ys,q1,q2,.inl (Nat.le_refl _)⟩,hd zs H p⟩
end L2
namespace Hv
open PySem L2
abbrev wz(ds:List Nat)(ws:List Int):List Int:=List.zipWith (fun(d:Nat) (x:Int)=>(d:Int)*x) ds ws
theorem or_{ds:List Nat}{ws:List Int}{i d:Nat}{x:Int}(h1:ds[i]?=some d)(h2:ws[i]?=some x):(wz ds ws)[i]?=some ((d:Int)*x):=by
 simp[wz,List.getElem?_zipWith,h1,h2]
theorem kx_{ws:List Int}{i:Nat}{x:V}(h:(ws.map V.int)[i]?=some x):∃y:Int,ws[i]?=some y/\x=.int y:=by
 rw[List.getElem?_map] at h
 cases e:ws[i]? with
 | none=>rw[e] at h;cases h
 | some d=>rw[e] at h;exact⟨d,rfl,(Option.some.inj h).symm⟩
def ch_:Sp:=fun vs H Q _=>∃(r c:Addr) (ds:List Nat) (ws:List Int),vs=[.ref r,.ref c]/\H r=some (.lst (natV ds))/\H c=some (.lst (ws.map V.int))/\(∀x∈ws,-9<=x/\x<=9)/\ds.length<=ws.length/\ws.length<=6/\
 ∀H',Same H H'->Q (.int (wz ds ws).sum) H'
section
variable{P:Program}{w:World}{K:PySem.W.Frag}{mg:Str->Option Value}{base:Heap}
theorem ik_:FnScope ["figures","weights"] ["figures","weights"] (h_ bl_):=⟨rfl,rfl,rfl,by decide +kernel,rfl,by decide +kernel,by decide +kernel⟩
theorem gC_{f:Addr}{fd:FuncData}(F:Fun K "weighted_sum" "weighted_sum" bl_ f fd)(T:Txt mg):FnOk P w K mg base CX0 1 f fd ["figures","weights"] ch_:=by
 refine F.ok ik_ (fun vs H Q E h=>?_) (fun cdv A outer s H vs Q E hr h=>?_)
 ·obtain⟨r,c,ds,ws,rfl,_⟩:=h;rfl
 ·obtain⟨r,c,ds,ws,rfl,h1,h2,hw,hl,hl6,k⟩:=h
  have nd2:List.Nodup (["figure","weight"]:List Str):=by decide +kernel
  refine⟨_,g_ (q_ (o_ (bo_ rfl) (by rfl) T.sum boot_sum (a_ (gz_ (N:=["figure","weight"]) (k:=2) (fr:=[]) (cmpS (sc:=h_ bl_) (NX:=["figures","weights"]) (k:=2) (fr:=[]) rfl rfl (by decide +kernel))
    (cmpF (sc:=h_ bl_) (NX:=["figures","weights"]) rfl (by decide +kernel)) rfl (jQ_ (by rfl) T.zip (pv 0) (pv 1))
    (fun cl C s H fp=>en_ K rfl rfl (n_ (j_ (i:=0) nd2 rfl (Or.inl rfl)) (n_ (j_ (i:=1) nd2 rfl (Or.inl rfl)) P_))) hV_ (fun cl C s H fp=>av_) (fun cl C s H fp=>m_ H_ (pv 0) (pv 1))) d_))),?_⟩
  refine⟨_,rfl,_,rfl,r,c,rfl,rfl,⟨_,SqL.of h1⟩,⟨_,SqL.of h2⟩,kV_ (K:=K) (a:=r) (b:=c) (xs:=natV ds) (ys:=ws.map V.int)
   (fun i zs H'=>zs=((wz ds ws).take i).map V.int/\Same H H') (by simp[natV];lia) ⟨by simp,Same.refl _⟩ (fun i zs H' _ p=>⟨SqL.of (p.2 _ _ h1),SqL.of (p.2 _ _ h2)⟩)
   (fun i zs H' hi p=>szl (by rw[p.1,List.length_map,List.length_take];simp[natV] at hi;lia)) ?_ ?_⟩
  ·rintro i x y zs H' t hx hy ⟨rfl,s2⟩ ht
   obtain⟨d,hd,rfl⟩:=mN_ hx
   obtain⟨x,hw',rfl⟩:=kx_ hy
   have hx9:=hw x (List.mem_of_getElem? hw')
   refine⟨t,_,rfl,SqT.of c_,rfl,_,_,rfl,_,_,rfl,rfl,_,rfl,_,rfl,_,_,rfl,rfl,.inr ⟨by lia,by lia⟩,?_,B_ s2 (s2.free ht)⟩
   rw[List.take_add_one,or_ hd hw']
   simp
  rintro zs H' ⟨rfl,s2⟩ wl hwl
  have e1:(natV ds).length=(wz ds ws).length:=by simp[natV,wz];lia
  rw[e1,List.take_length]
  exact⟨wl,_,rfl,SqL.of c_,k _ (B_ s2 (s2.free hwl))⟩
end
end Hv
namespace Mq
end Mq
namespace Me
open Mq
theorem fM_(ps:List Nat):∀ws:List Int,ws.length=ps.sum->(Ma.cuts ps ws).map List.length=ps:=by
 induction ps with
 | nil=>intro ws _;rfl
 | cons p ps ih =>
  intro ws h
  rw[List.sum_cons] at h
  rw[Ma.cuts,List.map_cons,ih (ws.drop p) (by rw[List.length_drop];lia),List.length_take]
  congr 1
  lia
end Me
namespace Mg
open Me Mq
def ns(g:Nat->Int):Nat->Int
 | 0=>0
 | n+1=>ns g n+g n
theorem L_{g h:Nat->Int}:∀ {n:Nat},(∀i,i<n->g i=h i)->ns g n=ns h n
 | 0,_=>rfl
 | n+1,e=>by rw[ns,ns,L_ (n:=n) fun i hi=>e i (by lia),e n (by lia)]
theorem fv_(g:Nat->Int)(n:Nat):∀m:Nat,ns g (n+m)=ns g n+ns (fun i=>g (n+i)) m
 | 0=>by simp[ns]
 | m+1=>by
  rw[<-Nat.add_assoc,ns,ns,fv_ g n m]
  lia
theorem ki_(g h:Nat->Int):∀n:Nat,ns (fun i=>g i+h i) n=ns g n+ns h n
 | 0=>rfl
 | n+1=>by simp only[ns];rw[ki_ g h n];lia
theorem kg_:∀n:Nat,ns (fun _=>0) n=0
 | 0=>rfl
 | n+1=>by rw[ns,kg_ n];rfl
theorem ft_(g:Nat->Int)(b:Nat):∀a:Nat,ns g (a*b)=ns (fun i=>ns (fun j=>g (i*b+j)) b) a
 | 0=>by simp[ns]
 | a+1=>by
  rw[Nat.succ_mul,fv_,ns,ft_ g b a]
def tg(f:List (Int×Int))(G:Int->Int):Int:=(f.map fun q=>q.2*G q.1).sum
theorem aa_(p:Int×Int)(f:List (Int×Int))(G:Int->Int):tg (p::f) G=p.2*G p.1+tg f G:=by simp[tg]
theorem jj_{k n:Int}{G:Int->Int}:∀ {f:List (Int×Int)},(keys f).Nodup->tg (addTo f k n) G=tg f G+n*G k
 | [],_=>by simp[addTo,put,look,tg]
 | (a,x)::f,nd=>by
  have nd1:a∉keys f:=(List.nodup_cons.mp nd).1
  have nd2:(keys f).Nodup:=(List.nodup_cons.mp nd).2
  by_cases e:a=k
  ·subst e
   rw[hd_ nd1,aa_,aa_]
   simp only
   rw[Int.add_mul]
   lia
  ·rw[eK_ e,aa_,aa_,jj_ (k:=k) (n:=n) nd2]
   lia
theorem jh_{p:Int×Int}{w:Int}{G:Int->Int}{acc:List (Int×Int)}(nd:(keys acc).Nodup):∀n:Nat,tg (figs p w n acc) G=tg acc G+p.2*ns (fun(d:Nat)=>G (p.1+(d:Int)*w)) n
 | 0=>by simp[ns,figs]
 | n+1=>by
  rw[aR_,jj_ (gR_ nd n),jh_ nd n,ns,Int.mul_add]
  lia
theorem jg_{b:Nat}{w:Int}{G:Int->Int}:∀(f acc:List (Int×Int)),(keys acc).Nodup->tg (f.foldl (fun acc p=>figs p w b acc) acc) G=tg acc G+tg f fun x=>ns (fun(d:Nat)=>G (x+(d:Int)*w)) b
 | [],acc,_=>by simp[tg]
 | p::f,acc,nd=>by
  rw[List.foldl_cons,jg_ f _ (gR_ nd b),jh_ nd b,aa_]
  lia
theorem mv_{b:Nat}{w:Int}{G:Int->Int}(f:List (Int×Int)):tg (S_ f b w) G=tg f fun x=>ns (fun(d:Nat)=>G (x+(d:Int)*w)) b:=by
 have:=jg_ (b:=b) (w:=w) (G:=G) f [] (by simp[keys])
 have e:tg [] G=0:=rfl
 rw[e,Int.zero_add] at this
 exact this
def ws1(b d:Nat)(row:List Int):Int:=(Ma.wts b d row.length row).sum
theorem mZ_(b d e L:Nat)(he:e<b):Ma.dws b (d*b+e) (L+1) (L+1)=Ma.dws b d L L++[e]:=by
 rw[Ma.eJ_]
 congr 1
 ·unfold Ma.dws
  apply List.map_congr_left
  intro j hj
  have hj':=List.mem_range.mp hj
  have e1:L+1-1-j=(L-1-j)+1:=by lia
  rw[e1,Nat.pow_succ',<-Nat.div_div_eq_div_mul]
  have e2:(d*b+e) / b=d:=by
   rw[Nat.mul_comm d b,Nat.mul_add_div (by lia),Nat.div_eq_of_lt he,Nat.add_zero]
  rw[e2]
 ·have e1:L+1-1-L=0:=by lia
  rw[e1,Nat.pow_zero,Nat.div_one,Nat.mul_comm d b,Nat.mul_add_mod,Nat.mod_eq_of_lt he]
theorem hf_(b d e:Nat)(row:List Int)(w:Int)(he:e<b):ws1 b (d*b+e) (row++[w])=ws1 b d row+e*w:=by
 unfold ws1 Ma.wts
 rw[List.length_append,List.length_singleton,mZ_ b d e row.length he,List.zipWith_append (by rw[Ma.M_]),List.sum_append]
 simp
theorem dJ_(b:Nat)(G:Int->Int)(row:List Int):ns (fun d=>G (ws1 b d row)) (b ^ row.length)=tg (waysW b row) G:=by
 have key:∀(n:Nat) (row:List Int),row.length=n->∀G:Int->Int,ns (fun d=>G (ws1 b d row)) (b ^ row.length)=tg (waysW b row) G:=fun n=>by
  induction n with
  | zero =>
   intro row h G
   have:row=[]:=List.eq_nil_of_length_eq_zero h
   subst this
   simp[ns,tg,waysW,ws1,Ma.wts]
  | succ n ih =>
   intro row h G
   obtain⟨r,w,rfl⟩:∃r w,row=r++[w]:=by
    refine⟨row.dropLast,row.getLast (by intro z;rw[z] at h;simp at h),?_⟩
    exact(List.dropLast_concat_getLast _).symm
   have hr:r.length=n:=by simpa using h
   have e1:waysW b (r++[w])=S_ (waysW b r) b w:=by
    unfold waysW
    rw[List.foldl_append]
    rfl
   rw[e1,mv_,<-ih r hr,List.length_append,List.length_singleton,Nat.pow_succ,ft_]
   apply L_
   intro d _
   apply L_
   intro e he
   rw[hf_ b d e r w he]
 exact key row.length row rfl G
theorem fK_(b d m p L:Nat)(hb:0<b)(hm:m<b ^ L):Ma.dws b (d*b ^ L+m) (p+L) (p+L)=Ma.dws b d p p++Ma.dws b m L L:=by
 have gen:∀i,i<=L->Ma.dws b (d*b ^ L+m) (p+L) (p+i)=Ma.dws b d p p++Ma.dws b m L i:=fun i=>by
  induction i with
  | zero =>
   intro _
   unfold Ma.dws
   simp only[Nat.add_zero,List.range_zero,List.map_nil,List.append_nil]
   apply List.map_congr_left
   intro j hj
   have hj':=List.mem_range.mp hj
   have e1:p+L-1-j=(p-1-j)+L:=by lia
   rw[e1,Nat.pow_add,Nat.mul_comm (b ^ (p-1-j)),<-Nat.div_div_eq_div_mul]
   have e2:(d*b ^ L+m) / b ^ L=d:=by
    rw[Nat.mul_comm d,Nat.mul_add_div (Nat.pow_pos hb),Nat.div_eq_of_lt hm,Nat.add_zero]
   rw[e2]
  | succ i ih =>
   intro hi
   rw[<-Nat.add_assoc,Ma.eJ_,Ma.eJ_,ih (by lia),List.append_assoc]
   congr 3
   have e1:p+L-1-(p+i)=L-1-i:=by lia
   rw[e1]
   have e3:b ^ L=b ^ (L-1-i)*b*b ^ i:=by
    rw[<-Nat.pow_succ,<-Nat.pow_add]
    congr 1
    lia
   have e4:d*b ^ L+m=b ^ (L-1-i)*(d*b ^ i*b)+m:=by
    rw[e3]
    congr 1
    rw[Nat.mul_assoc (b ^ (L-1-i)),<-Nat.mul_assoc d,Nat.mul_comm d,Nat.mul_assoc (b ^ (L-1-i))]
    congr 1
    rw[Nat.mul_comm b,<-Nat.mul_assoc]
   rw[e4,Nat.mul_add_div (Nat.pow_pos hb),Nat.add_comm,Nat.add_mul_mod_self_right]
 exact gen L (Nat.le_refl _)
abbrev sumsN(b n:Nat)(ps:List Nat)(ws:List Int):List Int:=Ma.psums ps (Ma.wts b n ps.sum ws)
theorem bg_{b d m p:Nat}{ps:List Nat}{ws:List Int}(hb:0<b)(hm:m<b ^ ps.sum)(hw:ws.length=p+ps.sum):sumsN b (d*b ^ ps.sum+m) (p::ps) ws=ws1 b d (ws.take p)::sumsN b m ps (ws.drop p):=by
 have hl:(ws.take p).length=p:=by rw[List.length_take];lia
 have e:Ma.wts b (d*b ^ ps.sum+m) (p::ps).sum ws=Ma.wts b d p (ws.take p)++Ma.wts b m ps.sum (ws.drop p):=by
  unfold Ma.wts
  rw[List.sum_cons,fK_ b d m p ps.sum hb hm]
  conv=>lhs;rw[<-List.take_append_drop p ws]
  rw[List.zipWith_append (by rw[Ma.M_,hl])]
 show Ma.psums (p::ps) (Ma.wts b (d*b ^ ps.sum+m) (p::ps).sum ws)=_
 rw[e]
 have l1:(Ma.wts b d p (ws.take p)).length=p:=Ma.fY_ _ _ _ _ hl
 unfold Ma.psums
 rw[Ma.cuts,List.map_cons]
 congr 1
 ·rw[List.take_left' l1]
  unfold ws1
  rw[hl]
 ·rw[List.drop_left' l1]
  rfl
def tr(b:Nat):List (List Int)->(List Int->Int)->Int
 | [],F=>F []
 | row::rows,F=>tg (waysW b row) fun x=>tr b rows fun v=>F (x::v)
theorem nf_{b:Nat}(hb:0<b):∀(ps:List Nat) (ws:List Int) (F:List Int->Int),ws.length=ps.sum->ns (fun n=>F (sumsN b n ps ws)) (b ^ ps.sum)=tr b (Ma.cuts ps ws) F
 | [],ws,F,_=>by
  show ns _ (b ^ 0)=F []
  rw[Nat.pow_zero]
  simp only[ns,Int.zero_add]
  rfl
 | p::ps,ws,F,h=>by
  rw[List.sum_cons] at h
  have hl:(ws.take p).length=p:=by rw[List.length_take];lia
  rw[List.sum_cons,Nat.pow_add,ft_,Ma.cuts,tr,<-dJ_,hl]
  apply L_
  intro d _
  rw[<-nf_ hb ps (ws.drop p) _ (by rw[List.length_drop];lia)]
  apply L_
  intro m hm
  rw[bg_ hb hm h]
theorem G_{f:List (Int×Int)}{G H:Int->Int}(h:∀x,G x=H x):tg f G=tg f H:=by
 unfold tg
 congr 1
 exact List.map_congr_left fun p _=>by rw[h]
theorem ay_{b:Nat}:∀ {rows:List (List Int)} {F G:List Int->Int},(∀v,v.length=rows.length->F v=G v)->tr b rows F=tr b rows G
 | [],_,_,h=>h [] rfl
 | _::rows,_,_,h=>G_ fun x=>ay_ fun v hv=>h (x::v) (by simp[hv])
theorem eS_(c:Int)(f:List (Int×Int))(G:Int->Int):tg f (fun x=>c*G x)=c*tg f G:=by
 induction f with
 | nil=>simp[tg]
 | cons p f ih=>rw[aa_,aa_,ih,Int.mul_add,<-Int.mul_assoc,<-Int.mul_assoc,Int.mul_comm p.2 c]
theorem ot_(f:List (Int×Int))(G H:Int->Int):tg f (fun x=>G x-H x)=tg f G-tg f H:=by
 induction f with
 | nil=>simp[tg]
 | cons p f ih=>rw[aa_,aa_,aa_,ih,Int.mul_sub];lia
theorem gf_(f:List (Int×Int))(G H:Int->Int):tg f (fun x=>G x+H x)=tg f G+tg f H:=by
 induction f with
 | nil=>simp[tg]
 | cons p f ih=>rw[aa_,aa_,aa_,ih,Int.mul_add];lia
theorem mr_{b:Nat}(c:Int):∀(rows:List (List Int)) (F:List Int->Int),tr b rows (fun v=>c*F v)=c*tr b rows F
 | [],_=>rfl
 | row::rows,F=>by
  show tg _ _=c*tg _ _
  rw[<-eS_]
  exact G_ fun x=>mr_ c rows _
theorem gb_{b:Nat}(rows:List (List Int)):tr b rows (fun _=>0)=0:=by
 have:=mr_ (b:=b) 0 rows fun _=>0
 simp only[Int.zero_mul] at this
 exact this
def fp(h:Int->Int)(v:List Int):Int:=v.foldl (fun m x=>m*h x) 1
theorem cG_(h:Int->Int):∀(v:List Int) (c:Int),v.foldl (fun m x=>m*h x) c=c*v.foldl (fun m x=>m*h x) 1
 | [],c=>by simp
 | x::v,c=>by
  rw[List.foldl_cons,List.foldl_cons,cG_ h v (c*h x),cG_ h v (1*h x),Int.one_mul,Int.mul_assoc]
def iv(a:Int)(n:Nat)(x:Int):Int:=if a<=x/\x<a+n then 1 else 0
theorem dV_(x a:Int):∀n:Nat,sm (fun t=>if x=t then 1 else 0) a n=iv a n x
 | 0=>by
  unfold iv
  rw[if_neg (by lia)]
  rfl
 | n+1=>by
  simp only[sm]
  rw[dV_ x a n]
  unfold iv
  by_cases h1:a<=x/\x<a+n
  ·rw[if_pos h1,if_neg (by lia),if_pos (by push_cast;lia)]
   rfl
  ·by_cases h2:x=a+n
   ·rw[if_neg h1,if_pos h2,if_pos (by push_cast;lia)]
    rfl
   ·rw[if_neg h1,if_neg h2,if_neg (by push_cast;lia)]
    rfl
theorem cw_{t:Int}:∀ {f:List (Int×Int)},(keys f).Nodup->tg f (fun x=>if x=t then 1 else 0)=gv f t
 | [],_=>rfl
 | (a,x)::f,nd=>by
  have nd1:a∉keys f:=(List.nodup_cons.mp nd).1
  have nd2:(keys f).Nodup:=(List.nodup_cons.mp nd).2
  rw[aa_,cw_ nd2]
  unfold gv
  by_cases e:a=t
  ·subst e
   rw[hS_,dc_ nd1,if_pos rfl]
   simp
  ·rw[fz_ e,if_neg e]
   simp
theorem ou_(f:List (Int×Int))(F:Int->Int->Int)(a:Int):∀n:Nat,tg f (fun x=>sm (fun t=>F t x) a n)=sm (fun t=>tg f (F t)) a n
 | 0=>by
  have:=eS_ 0 f fun _=>0
  simp only[Int.zero_mul] at this
  exact this
 | n+1=>by
  simp only[sm]
  rw[gf_,ou_ f F a n]
end Mg
namespace Mg
open Me Mq
theorem ji_{f:List (Int×Int)}{G H:Int->Int}(h:∀x∈keys f,G x=H x):tg f G=tg f H:=by
 unfold tg
 congr 1
 exact List.map_congr_left fun p hp=>by rw[h p.1 (List.mem_map.mpr ⟨p,hp,rfl⟩)]
theorem mX_(q:Int->Prop)[DecidablePred q]:∀v:List Int,fp (fun x=>if q x then 1 else 0) v=if ∀x∈v,q x then 1 else 0
 | []=>by simp[fp]
 | x::v=>by
  have e:fp (fun x=>if q x then 1 else 0) (x::v)=(if q x then 1 else 0)*fp (fun x=>if q x then 1 else 0) v:=by
   unfold fp
   rw[List.foldl_cons,cG_,Int.one_mul]
  rw[e,mX_ q v]
  by_cases h1:q x
  ·by_cases h2:∀y∈v,q y
   ·rw[if_pos h1,if_pos h2,if_pos (by intro y hy;rcases List.mem_cons.mp hy with rfl | hy;exact h1;exact h2 y hy)];rfl
   ·rw[if_pos h1,if_neg h2,if_neg (fun z=>h2 fun y hy=>z y (by simp[hy]))];rfl
  ·have h3:¬ ∀y∈x::v,q y:=fun z=>h1 (z x List.mem_cons_self)
   rw[if_neg h1,if_neg h3,Int.zero_mul]
def sprd(v:List Int):Int:=Ma.maxL v-Ma.minL v
theorem nh_{v:List Int}(hv:0<v.length){a:Int}{n:Nat}:(∀x∈v,a<=x/\x<a+n)↔a<=Ma.minL v/\Ma.maxL v<a+n:=by
 obtain⟨m1,m2⟩:=Ma.v_ v hv
 obtain⟨m3,m4⟩:=Ma.x_ v hv
 constructor
 ·intro h
  exact⟨(h _ m1).1,(h _ m3).2⟩
 ·rintro⟨h1,h2⟩ x hx
  have:=m2 x hx
  have:=m4 x hx
  lia
theorem pr_{v:List Int}(hv:0<v.length)(a:Int)(n:Nat):fp (iv a n) v=if a<=Ma.minL v/\Ma.maxL v<a+n then 1 else 0:=by
 have:=mX_ (fun x=>a<=x/\x<a+n) v
 have e:iv a n=fun x=>if a<=x/\x<a+(n:Int) then 1 else 0:=rfl
 rw[e,this]
 by_cases h:∀x∈v,a<=x/\x<a+n
 ·rw[if_pos h,if_pos ((nh_ hv).mp h)]
 ·rw[if_neg h,if_neg fun z=>h ((nh_ hv).mpr z)]
theorem win{v:List Int}(hv:0<v.length){d:Nat}{A:Int}{N:Nat}(h1:A<=Ma.minL v)(h2:Ma.minL v<A+N):(if sprd v<=d then 1 else 0)=sm (fun a=>fp (iv a (d+1)) v-fp (iv (a+1) d) v) A N:=by
 have e:sm (fun a=>fp (iv a (d+1)) v-fp (iv (a+1) d) v) A N=sm (fun a=>if Ma.minL v=a then (if sprd v<=d then 1 else 0) else 0) A N:=by
  apply bu_
  intro a _ _
  rw[pr_ hv,pr_ hv]
  unfold sprd
  obtain⟨m1,m2⟩:=Ma.v_ v hv
  obtain⟨m3,m4⟩:=Ma.x_ v hv
  have mm:=m2 _ m3
  push_cast
  by_cases q1:Ma.minL v=a
  ·rw[if_pos q1]
   by_cases q2:Ma.maxL v-Ma.minL v<=d
   ·rw[if_pos (by lia),if_neg (by lia),if_pos q2];rfl
   ·rw[if_neg (by lia),if_neg (by lia),if_neg q2];rfl
  ·rw[if_neg q1]
   by_cases q2:a<=Ma.minL v/\Ma.maxL v<a+(d+1)
   ·rw[if_pos q2,if_pos (by lia)];rfl
   ·rw[if_neg q2,if_neg (by lia)];rfl
 rw[e]
 by_cases q:sprd v<=d
 ·rw[if_pos q,dV_]
  unfold iv
  rw[if_pos ⟨h1,h2⟩]
 ·rw[if_neg q]
  refine(ap_ fun t _ _=>?_).symm
  split <;> rfl
section
variable{b:Nat}{ps:List Nat}{ws:List Int}
theorem hp_(f:List (Int×Int))(c:Int):tg f (fun _=>c)=tot f*c:=by
 induction f with
 | nil=>simp[tg,tot]
 | cons p f ih =>
  rw[aa_,ih]
  simp only[tot,List.map_cons,List.sum_cons]
  rw[Int.add_mul]
end
def cd(w:Nat->Bool)(k:Nat->Int):Nat->List (Int×Int)
 | 0=>[]
 | n+1=>if w n=true then addTo (cd w k n) (k n) 1 else cd w k n
structure Pos(f:List (Int×Int)):Prop where
 nd:(keys f).Nodup
 ps:∀p∈f,1<=p.2
end Mg
namespace Mg
open Me Mq
section
variable{b:Nat}{ps:List Nat}{ws:List Int}
end
end Mg
namespace Mu
open Me Mg
abbrev Tri:=List (Int×Int×Int)
abbrev keyT(h:Tri):List Int:=h.map (·.1)
def lookT(h:Tri)(k:Int):Option (Int×Int):=(h.find? fun q=>decide (q.1=k)).map (·.2)
abbrev gT(h:Tri)(k:Int):Int×Int:=(lookT h k).getD (0,0)
def TT(h:Tri)(A B:Int->Int):Int:=(h.map fun q=>q.2.1*A q.1+q.2.2*B q.1).sum
theorem nX_{g:Nat->Int}:∀ {n:Nat},(∀i,i<n->0<=g i)->0<=ns g n
 | 0,_=>Int.le_refl _
 | n+1,h=>by
  rw[ns]
  have:=nX_ (n:=n) fun i hi=>h i (by lia)
  have:=h n (by lia)
  lia
theorem oW_{g h:Nat->Int}:∀ {n:Nat},(∀i,i<n->g i<=h i)->ns g n<=ns h n
 | 0,_=>Int.le_refl _
 | n+1,e=>by
  rw[ns,ns]
  have:=oW_ (n:=n) fun i hi=>e i (by lia)
  have:=e n (by lia)
  lia
theorem ev_(x:Int):∀n:Nat,ns (fun _=>x) n=n*x
 | 0=>by simp[ns]
 | n+1=>by rw[ns,ev_ x n];push_cast;rw[Int.add_mul];lia
end Mu
namespace Mu
open Me Mg
theorem eM_{b d i:Nat}{r1 r2:List Int}(hb:0<b)(hi:i<b ^ r2.length):ws1 b (d*b ^ r2.length+i) (r1++r2)=ws1 b d r1+ws1 b i r2:=by
 unfold ws1 Ma.wts
 rw[List.length_append,fK_ b d i r1.length r2.length hb hi,List.zipWith_append (by rw[Ma.M_]),List.sum_append]
end Mu
namespace Hv
open PySem L2
theorem oq_{b q j:Nat}{ws:List Int}(hj:j<=ws.length):(wz (Ma.dws b q j j) ws).sum=Mg.ws1 b q (ws.take j):=by
 unfold Mg.ws1 Ma.wts
 rw[List.length_take,Nat.min_eq_left hj]
 congr 1
 have e:ws=ws.take j++ws.drop j:=(List.take_append_drop j ws).symm
 conv=>lhs;rw[e]
 unfold wz
 rw[<-List.append_nil (Ma.dws b q j j),List.zipWith_append (by rw[Ma.M_,List.length_take,Nat.min_eq_left hj])]
 simp
theorem mp_{b q:Nat}{r:List Int}(hb0:0<b)(hb:b<=16)(hw:∀x∈r,-9<=x/\x<=9) : -(135*(r.length:Int))<=Mg.ws1 b q r/\Mg.ws1 b q r<=135*(r.length:Int):=by
 unfold Mg.ws1
 have gen:∀l:List Int,(∀y∈l,-135<=y/\y<=135)->-(135*(l.length:Int))<=l.sum/\l.sum<=135*(l.length:Int):=fun l=>by
  induction l with
  | nil=>intro _;simp
  | cons a t ih =>
   intro h
   have h1:=h a (by simp)
   have h2:=ih fun y hy=>h y (by simp[hy])
   simp only[List.sum_cons,List.length_cons]
   push_cast
   lia
 have g:=gen (Ma.wts b q r.length r) fun y hy=>by
  unfold Ma.wts at hy
  obtain⟨i,hi⟩:=List.getElem?_of_mem hy
  rw[List.getElem?_zipWith] at hi
  cases e1:(Ma.dws b q r.length r.length)[i]? with
  | none=>rw[e1] at hi;simp at hi
  | some d =>
   cases e2:r[i]? with
   | none=>rw[e1,e2] at hi;simp at hi
   | some x =>
    rw[e1,e2] at hi
    have hy':y=(d:Int)*x:=by simpa using hi.symm
    have hd:=Ma.kK_ hb0 (List.mem_of_getElem? e1)
    have hx:=hw x (List.mem_of_getElem? e2)
    have:=Me.cI_ (m:=0) (x:=0) (w:=x) (d:=d) (b:=b) ⟨by decide,by decide⟩ hx hb hd
    rw[hy']
    lia
 rw[Ma.fY_ _ _ _ _ rfl] at g
 exact g
def RowsD(H:Hp)(b j q:Nat)(rs:List Addr):Prop:=∀k a,rs[k]?=some a->H a=some (.lst (natV (Ma.dws b (q+k) j j)))/\q+k<b ^ j
theorem RowsD.keep{H H':Hp}{b j q:Nat}{rs:List Addr}(h:RowsD H b j q rs)(s:Same H H'):RowsD H' b j q rs:=fun k a e=>⟨s _ _ (h k a e).1,(h k a e).2⟩
end Hv
namespace Mu
open Me Mg
theorem lO_{lo n lo2 n2 st:Nat}(g:Nat->Int)(hr:(n=1)\/(lo2=0/\n2=st)):ns (fun i=>ns (fun j=>g ((lo+i)*st+(lo2+j))) n2) n=ns (fun i=>g (lo*st+lo2+i)) (n*n2):=by
 rcases hr with rfl | ⟨rfl,rfl⟩
 ·rw[Nat.one_mul]
  simp only[ns,Int.zero_add,Nat.add_zero]
  exact L_ fun j _=>by rw[Nat.add_assoc]
 ·rw[ft_]
  refine L_ fun i _=>L_ fun j _=>?_
  rw[Nat.zero_add,Nat.add_mul,Nat.add_zero,Nat.add_assoc]
end Mu
namespace Mu
open Me Mg
theorem dig{b x m t:Nat}(ht:t<m):x % b ^ m / b ^ (m-1-t) % b=x / b ^ (m-1-t) % b:=by
 have e:b ^ m=b ^ (m-1-t)*(b*b ^ t):=by
  rw[<-Nat.pow_succ',<-Nat.pow_add]
  congr 1
  lia
 rw[e,Nat.mod_mul_right_div_self,Nat.mod_mul_right_mod]
theorem hY_{b n L i:Nat}(h:i<L):(Ma.dws b n L L)[i]?=some (n / b ^ (L-1-i) % b):=by
 unfold Ma.dws
 rw[List.getElem?_map,List.getElem?_range h]
 rfl
theorem gT_{b a pl o l:Nat}(h:o+l<=pl):((Ma.dws b a pl pl).drop o).take l=Ma.dws b (a / b ^ (pl-o-l) % b ^ l) l l:=by
 apply List.ext_getElem?
 intro t
 by_cases ht:t<l
 ·rw[List.getElem?_take_of_lt ht,List.getElem?_drop,hY_ (by lia),hY_ ht,dig ht,Nat.div_div_eq_div_mul,<-Nat.pow_add]
  have:pl-1-(o+t)=pl-o-l+(l-1-t):=by lia
  rw[this]
 ·rw[List.getElem?_eq_none (by rw[List.length_take,List.length_drop,Ma.M_];lia),List.getElem?_eq_none (by rw[Ma.M_];lia)]
theorem mj_{b a pl o l:Nat}(h:o<=pl)(h2:pl<=o+l):((Ma.dws b a pl pl).drop o).take l=Ma.dws b (a % b ^ (pl-o)) (pl-o) (pl-o):=by
 have e:((Ma.dws b a pl pl).drop o).take l=((Ma.dws b a pl pl).drop o).take (pl-o):=by
  rw[List.take_of_length_le (by rw[List.length_drop,Ma.M_];lia),List.take_of_length_le (by rw[List.length_drop,Ma.M_];lia)]
 rw[e,gT_ (by lia)]
 have:pl-o-(pl-o)=0:=by lia
 rw[this,Nat.pow_zero,Nat.div_one]
theorem mi_{b a pl o l:Nat}(h:pl<=o):((Ma.dws b a pl pl).drop o).take l=[]:=by
 rw[List.drop_of_length_le (by rw[Ma.M_];exact h)]
 simp
def pj(pl o l:Nat):Nat:=if o+l<=pl then l else if o<=pl then pl-o+1 else 0
def pq(b a pl o l:Nat):Nat:=if o+l<=pl then a / b ^ (pl-o-l) % b ^ l else if o<=pl then a % b ^ (pl-o)*b else 0
def pn(pl e o l:Nat):Nat:=if o+l<=pl then 1 else if o<=pl then e else 1
theorem pD_{pl o l:Nat}:pj pl o l<=l:=by
 unfold pj
 split
 ·exact Nat.le_refl _
 ·split <;> lia
end Mu
namespace Hv
open PySem L2
def dm_(H:Hp)(p:Addr)(b a pl e:Nat)(ps:List Nat)(bs:List Addr):Prop:=∀i l r,ps[i]?=some l->bs[i]?=some r->r≠p/\∃rs,H r=some (.lst (rs.map V.ref))/\rs.length=Mu.pn pl e (ps.take i).sum l/\(∀x∈rs,x≠p)/\RowsD H b (Mu.pj pl (ps.take i).sum l) (Mu.pq b a pl (ps.take i).sum l) rs
theorem dm_.up{H H':Hp}{p:Addr}{b a pl e:Nat}{ps:List Nat}{bs:List Addr}(h:dm_ H p b a pl e ps bs)(k:∀x o,H x=some o->x≠p->H' x=some o):dm_ H' p b a pl e ps bs:=fun i l r h1 h2=>by
 obtain⟨n1,rs,g1,g2,g3,g4⟩:=h i l r h1 h2
 exact⟨n1,rs,k _ _ g1 n1,g2,g3,fun m x e=>⟨k _ _ (g4 m x e).1 (g3 x (List.mem_of_getElem? e)),(g4 m x e).2⟩⟩
def bH_:Sp:=fun vs H Q _=>∃f A c b ps ws,∃(hd:Addr) (a pl e:Nat),vs=[.ref f,.ref hd,.int e]/\FrAt H f A c b ps ws/\H hd=some (.lst (natV (Ma.dws b a pl pl)))/\e<=b/\pl<=24/\
 ∀(p:Addr) (bs:List Addr) (H':Hp),H p=none->Same H H'->H' p=some (.lst (bs.map V.ref))->bs.length=ps.length->dm_ H' p b a pl e ps bs->Q (.ref p) H'
section
variable{P:Program}{w:World}{K:PySem.W.Frag}{mg:Str->Option Value}{base:Heap}
theorem cQ_:FnScope ["frame","head","end","beginnings","start","length","given"] ["frame","head","end"] (h_ bx_):=⟨rfl,rfl,rfl,by decide +kernel,rfl,by decide +kernel,by decide +kernel⟩
theorem fo_{f:Addr}{fd:FuncData}(F:Fun K "part_beginnings" "part_beginnings" bx_ f fd)(T:Txt mg):FnOk P w K mg base CX0 1 f fd ["frame","head","end"] bH_:=by
 refine F.ok cQ_ (fun vs H Q E h=>?_) (fun cdv A outer s H vs Q E hr h=>?_)
 ·obtain⟨g,A,c,b,ps,ws,hd,a,pl,e,rfl,_⟩:=h;rfl
 ·obtain⟨g,A',c,b,ps,ws,hd,a,pl,e,rfl,G,hhd,heb,hpl,k⟩:=h
  have nd:=cQ_.nd
  have ok:=G.ok
  have l4:=ok.l4
  have b2:=ok.b2
  refine⟨_,b_ (i_ (i:=3) nd rfl (Or.inl rfl) (s_ d_))
   (b_ (i_ (i:=4) nd rfl (Or.inl rfl) e_)
   (b_ (C_ PassesOwn.never rfl (J_ (ixt (pv 0) e_)) (j_ (i:=5) nd rfl (Or.inl rfl))
    (b_ (i_ (i:=6) nd rfl (Or.inr rfl) (aD_ bI_ (pv 1) (au_ (pv 4)) (au_ (m_ r_ (pv 4) (pv 5)))))
    (b_ (W_ (cB_ cu_ gA_ (pv 4) (lenS T.len (by rfl) (pv 1)) (m_ r_ (pv 4) (pv 5)))
     (g_ (I_ (cX_ PySem.F.plainAttrs_list PySem.F.slot_list_append PySem.F.type_list_append T_ (pv 3) (a_ (aZ_ (h_ bx_) ["frame","head","end","beginnings","start","length","given"] ["given"] [6] rfl (y_ (by rfl) T.range (a_ (pv 2) d_)) (fun cl C s H fp=>av_)
      (fun cl C s H fp=>m_ cZ_ (pv 1) (s_ (a_ (pv 0) d_))) (by decide +kernel)) d_))))
     (g_ (I_ (cX_ PySem.F.plainAttrs_list PySem.F.slot_list_append PySem.F.type_list_append T_ (pv 3) (a_ (s_ (a_ (pv 6) d_)) d_)))))
    (g_ (i_ (i:=4) nd rfl (Or.inl rfl) (m_ r_ (pv 4) (pv 5)))))))
   (g_ (q_ (pv 3))))),?_⟩
  refine⟨sz (by decide),fun p hp=>?_⟩
  have s1:Same H (upd H p (.lst [])):=f_ hp
  have G1:=G.keep s1
  refine⟨_,rfl,_,_,_,_,rfl,rfl,SqT.of G1.tp,rfl,A',rfl,⟨_,SqL.of G1.hp⟩,Z_ (K:=K) (a:=A') (xs:=natV ps) (fun i σ H2=>∃(bs:List Addr) (v5 v6:Option V),σ=[some (.ref g),some (.ref hd),some (.int e),some (.ref p),some (.int (((ps.take i).sum:Nat):Int)),v5,v6]/\Same H H2/\H2 p=some (.lst (bs.map V.ref))/\bs.length=i/\dm_ H2 p b a pl e ps bs)
   ⟨[],none,none,rfl,s1,c_,rfl,fun i l r _ h=>by simp at h⟩ (fun i σ H2 _ h=>by obtain⟨_,_,_,_,s2,_⟩:=h;exact SqL.of (s2 _ _ G.hp)) ?_ ?_⟩
  ·rintro i x σ H2 hx ⟨bs,v5,v6,rfl,s2,hp2,hl2,B2⟩
   obtain⟨l,hl,rfl⟩:=mN_ hx
   have hi4:i<4:=by have:=(List.getElem?_eq_some_iff.mp hl).1;lia
   generalize eo:(ps.take i).sum=o
   have es:(ps.take (i+1)).sum=o+l:=by rw[List.take_add_one,hl,List.sum_append,eo];simp
   have eg:cutV (natV (Ma.dws b a pl pl)) (some ((o:Nat):Int)) (some (((o:Nat):Int)+((l:Nat):Int)))=natV (((Ma.dws b a pl pl).drop o).take l):=by
    rw[gY_]
    simp[natV,List.map_take,List.map_drop]
   refine⟨_,rfl,_,rfl,_,rfl,_,rfl,_,rfl,_,_,rfl,rfl,_,rfl,hd,_,rfl,SqL.of (s2 _ _ hhd),fun q hq=>?_⟩
   have eg':cutV (natV (Ma.dws b a pl pl)) (some ((o:Nat):Int)) (some ((fun i j=>i+j) ((o:Nat):Int) ((l:Nat):Int)))=natV (((Ma.dws b a pl pl).drop o).take l):=eg
   have s3:=f_ (o:=.lst (natV (((Ma.dws b a pl pl).drop o).take l))) hq
   have u3:(upd H2 q (.lst (natV (((Ma.dws b a pl pl).drop o).take l)))) q=_:=c_
   have epq:p≠q:=k_ hp2 hq
   rw[show(upd H2 q (.lst (cutV (natV (Ma.dws b a pl pl)) (some ((o:Nat):Int)) (some (((o:Nat):Int)+((l:Nat):Int))))))=upd H2 q (.lst (natV (((Ma.dws b a pl pl).drop o).take l))) from by rw[eg]]
   generalize upd H2 q (.lst (natV (((Ma.dws b a pl pl).drop o).take l)))=H3 at s3 u3⊢
   have p3:=s3 _ _ hp2
   have close:∀(r:Addr) (rs:List Addr) (H4:Hp),Same H3 H4->H4 r=some (.lst (rs.map V.ref))->r≠p->rs.length=Mu.pn pl e o l->(∀x∈rs,x≠p)->RowsD H4 b (Mu.pj pl o l) (Mu.pq b a pl o l) rs->
     Same H (upd H4 p (.lst (bs.map V.ref++[V.ref r])))/\(upd H4 p (.lst (bs.map V.ref++[V.ref r]))) p=some (.lst ((bs++[r]).map V.ref))/\(bs++[r]).length=i+1/\dm_ (upd H4 p (.lst (bs.map V.ref++[V.ref r]))) p b a pl e ps (bs++[r]):=fun r rs H4 s4 hr4 nr hn hne RD=>by
    refine⟨B_ ((s2.trans s3).trans s4) hp,by rw[c_,List.map_append];rfl,by simp[hl2],fun m l' r' h1 h2=>?_⟩
    have upx:∀x ob,H4 x=some ob->x≠p->(upd H4 p (.lst (bs.map V.ref++[V.ref r]))) x=some ob:=fun x ob e n=>by rw[l_ n];exact e
    by_cases hm:m<bs.length
    ·rw[List.getElem?_append_left hm] at h2
     exact dm_.up B2 (fun x ob e n=>upx x ob ((s3.trans s4) _ _ e) n) m l' r' h1 h2
    ·have hm':m=bs.length:=by
      have:=(List.getElem?_eq_some_iff.mp h2).1
      simp at this
      lia
     have hmi:m=i:=by lia
     subst hmi
     rw[List.getElem?_append_right (by lia),hm',Nat.sub_self] at h2
     have er:r=r':=by simpa using h2
     subst er
     rw[hl] at h1
     have el:l=l':=Option.some.inj h1
     subst el
     rw[eo]
     exact⟨nr,rs,upx _ _ hr4 nr,hn,hne,fun t x e=>⟨upx _ _ (RD t x e).1 (hne x (List.mem_of_getElem? e)),(RD t x e).2⟩⟩
   have one:∀H4,Same H3 H4->((Ma.dws b a pl pl).drop o).take l=Ma.dws b (Mu.pq b a pl o l) (Mu.pj pl o l) (Mu.pj pl o l)->Mu.pq b a pl o l<b ^ Mu.pj pl o l->RowsD H4 b (Mu.pj pl o l) (Mu.pq b a pl o l) [q]:=fun H4 s4 e1 e2 t x e=>by
    have ht:t=0:=by have:=(List.getElem?_eq_some_iff.mp e).1;simp at this;exact this
    subst ht
    have ex:q=x:=by simpa using e
    subst ex
    rw[Nat.add_zero,<-e1]
    exact⟨s4 _ _ u3,e2⟩
   have el0:(((natV (Ma.dws b a pl pl)).length:Nat):Int)=(pl:Int):=by rw[natV,List.length_map,Ma.M_]
   refine⟨_,rfl,_,rfl,hd,_,rfl,.inl (SqL.of (s3 _ _ (s2 _ _ hhd))),_,_,rfl,rfl,_,rfl,?_⟩
   rw[el0]
   have b0:0<b:=by lia
   have single:∀(_:((Ma.dws b a pl pl).drop o).take l=Ma.dws b (Mu.pq b a pl o l) (Mu.pj pl o l) (Mu.pj pl o l)) (_:Mu.pq b a pl o l<b ^ Mu.pj pl o l) (_:1=Mu.pn pl e o l) (d:Addr) (hd':H3 d=none),_:=fun e1 e2 e3 d hd'=>close d [q] _ (f_ (o:=.lst [.ref q]) hd') c_ (Ne.symm (k_ p3 hd')) e3 (fun x hx=>(show x=q by simpa using hx)▸Ne.symm epq) (one _ (f_ hd') e1 e2)
   by_cases hA:o+l<=pl
   ·have j1:Mu.pj pl o l=l:=by unfold Mu.pj;rw[if_pos hA]
    have j2:Mu.pq b a pl o l=a / b ^ (pl-o-l) % b ^ l:=by unfold Mu.pq;rw[if_pos hA]
    have j3:Mu.pn pl e o l=1:=by unfold Mu.pn;rw[if_pos hA]
    rw[decide_eq_true (show((o:Nat):Int)<=(pl:Int) by lia)]
    refine iteT ⟨_,rfl,_,rfl,_,_,rfl,rfl,_,_,rfl,rfl,_,rfl,?_⟩
    rw[decide_eq_false (show ¬ (pl:Int)<(o:Int)+(l:Int) by lia)]
    refine iteF ⟨_,rfl,.inl ⟨rfl,_,SqL.of p3⟩,_,rfl,sz (by simp),fun d hd'=>?_⟩
    obtain⟨c1,c2,c3,c4⟩:=single (by rw[j1,j2];exact Mu.gT_ hA) (by rw[j1,j2];exact Nat.mod_lt _ (Nat.pow_pos b0)) j3.symm d hd'
    refine⟨p,_,_,rfl,rfl,(f_ hd') _ _ p3,szl (by rw[List.length_map];lia),?_⟩
    refine⟨_,rfl,_,rfl,_,_,rfl,rfl,bs++[d],some (.int (l:Int)),some (.ref q),?_,c1,c2,c3,c4⟩
    rw[es];push_cast;rfl
   by_cases hC:pl<o
   ·have j1:Mu.pj pl o l=0:=by unfold Mu.pj;rw[if_neg hA,if_neg (by lia)]
    have j2:Mu.pq b a pl o l=0:=by unfold Mu.pq;rw[if_neg hA,if_neg (by lia)]
    have j3:Mu.pn pl e o l=1:=by unfold Mu.pn;rw[if_neg hA,if_neg (by lia)]
    rw[decide_eq_false (show ¬ ((o:Nat):Int)<=(pl:Int) by lia)]
    refine iteF ⟨_,rfl,iteF ⟨_,rfl,.inl ⟨rfl,_,SqL.of p3⟩,_,rfl,sz (by simp),fun d hd'=>?_⟩⟩
    obtain⟨c1,c2,c3,c4⟩:=single (by rw[j1,j2];exact Mu.mi_ (by lia)) (by rw[j1,j2];exact Nat.pow_pos b0) j3.symm d hd'
    refine⟨p,_,_,rfl,rfl,(f_ hd') _ _ p3,szl (by rw[List.length_map];lia),?_⟩
    refine⟨_,rfl,_,rfl,_,_,rfl,rfl,bs++[d],some (.int (l:Int)),some (.ref q),?_,c1,c2,c3,c4⟩
    rw[es];push_cast;rfl
   ·have j1:Mu.pj pl o l=pl-o+1:=by unfold Mu.pj;rw[if_neg hA,if_pos (by lia)]
    have j2:Mu.pq b a pl o l=a % b ^ (pl-o)*b:=by unfold Mu.pq;rw[if_neg hA,if_pos (by lia)]
    have j3:Mu.pn pl e o l=e:=by unfold Mu.pn;rw[if_neg hA,if_pos (by lia)]
    rw[decide_eq_true (show((o:Nat):Int)<=(pl:Int) by lia)]
    refine iteT ⟨_,rfl,_,rfl,_,_,rfl,rfl,_,_,rfl,rfl,_,rfl,?_⟩
    rw[decide_eq_true (show(pl:Int)<(o:Int)+(l:Int) by lia)]
    have eg3:=Mu.mj_ (b:=b) (a:=a) (pl:=pl) (o:=o) (l:=l) (by lia) (by lia)
    have b16:=ok.b16
    refine iteT ⟨_,rfl,.inl ⟨rfl,_,SqL.of p3⟩,_,rfl,_,rfl,by lia,by lia,aT_ (lo:=0) (n:=(e:Int).toNat) (fun m ys H4=>∃rs:List Addr,ys=rs.map V.ref/\rs.length=m/\(∀x∈rs,x≠p)/\Same H3 H4/\RowsD H4 b (pl-o+1) (a % b ^ (pl-o)*b) rs)
     ⟨[],rfl,rfl,fun x hx=>by simp at hx,Same.refl _,fun t x h=>by simp at h⟩ ?_ ?_⟩
    ·rintro m ys H4 hm ⟨rs,rfl,hrl,hne,s4,RD⟩
     have hme:m<e:=by lia
     refine⟨szl (by rw[List.length_map];lia),_,rfl,_,rfl,sz (by simp),fun t ht=>?_⟩
     have s45:Same H4 _:=f_ (o:=.lst [.int (0+(m:Int))]) ht
     have s5:=s4.trans s45
     have u5:(upd H4 t (.lst [.int (0+(m:Int))])) t=_:=c_
     generalize upd H4 t (.lst [.int (0+(m:Int))])=H5 at s45 s5 u5⊢
     refine⟨q,t,_,_,rfl,rfl,s5 _ _ u3,u5,sz (by rw[eg3,natV,List.length_map,Ma.M_];simp;lia),fun r hr'=>?_⟩
     have s6:=f_ (o:=.lst (natV (((Ma.dws b a pl pl).drop o).take l)++[.int (0+(m:Int))])) hr'
     have u6:(upd H5 r (.lst (natV (((Ma.dws b a pl pl).drop o).take l)++[.int (0+(m:Int))]))) r=_:=c_
     have s46:Same H4 (upd H5 r (.lst (natV (((Ma.dws b a pl pl).drop o).take l)++[.int (0+(m:Int))]))):=s45.trans s6
     refine⟨rs++[r],by rw[List.map_append];rfl,by simp[hrl],fun x hx=>?_,s4.trans s46,fun t' x h=>?_⟩
     ·rcases List.mem_append.mp hx with hx | hx
      ·exact hne x hx
      ·have:x=r:=by simpa using hx
       rw[this]
       exact Ne.symm (k_ (s5 _ _ p3) hr')
     ·by_cases ht':t'<rs.length
      ·rw[List.getElem?_append_left ht'] at h
       exact RD.keep s46 t' x h
      ·have e1:t'=m:=by
        have:=(List.getElem?_eq_some_iff.mp h).1
        simp at this
        lia
       subst e1
       rw[List.getElem?_append_right (by lia),hrl,Nat.sub_self] at h
       have e2:r=x:=by simpa using h
       subst e2
       have hmb:t'<b:=by lia
       refine⟨?_,?_⟩
       ·rw[u6,eg3,Mg.mZ_ b _ t' (pl-o) hmb]
        simp[natV]
       ·rw[Nat.pow_succ]
        have h1:a % b ^ (pl-o)<b ^ (pl-o):=Nat.mod_lt _ (Nat.pow_pos b0)
        have h2:(a % b ^ (pl-o)+1)*b<=b ^ (pl-o)*b:=Nat.mul_le_mul_right b h1
        rw[Nat.add_mul] at h2
        lia
    ·rintro ys H4 ⟨rs,rfl,hrl,hne,s4,RD⟩ D hD
     have s5:=s4.trans (f_ (o:=.lst (rs.map V.ref)) hD)
     obtain⟨c1,c2,c3,c4⟩:=close D rs _ s5 c_ (Ne.symm (k_ (s4 _ _ p3) hD)) (by rw[j3,hrl];lia) hne (by rw[j1,j2];exact RD.keep (f_ hD))
     refine⟨p,_,_,rfl,rfl,s5 _ _ p3,szl (by rw[List.length_map];lia),?_⟩
     refine⟨_,rfl,_,rfl,_,_,rfl,rfl,bs++[D],some (.int (l:Int)),some (.ref q),?_,c1,c2,c3,c4⟩
     rw[es];push_cast;rfl
  ·rintro σ H2 ⟨bs,v5,v6,rfl,s2,hp2,hl2,B2⟩
   refine⟨_,rfl,k p bs H2 hp s2 hp2 (by rw[hl2];simp[natV]) B2⟩
end
end Hv
namespace Mu
open Me Mg
abbrev Stre:=Nat×Nat×Nat
abbrev sLo(b S:Nat)(x:Stre):Nat:=x.1*b ^ (S-x.2.1)
abbrev sN(b S:Nat)(x:Stre):Nat:=x.2.2*b ^ (S-x.2.1-1)
def strS(b S:Nat)(L:List Stre)(g:Nat->Int):Int:=(L.map fun x=>ns (fun i=>g (sLo b S x+i)) (sN b S x)).sum
structure StrOk(b S:Nat)(x:Stre):Prop where
 pl:x.2.1<S
 e1:1<=x.2.2
 eb:x.2.2<=b
 ha:x.1<b ^ x.2.1
def upTo(b S n:Nat):Nat->List Stre
 | 0=>[]
 | i+1=>upTo b S n i++if 0<n / b ^ (S-1-i) % b then [(n / b ^ (S-i),i,n / b ^ (S-1-i) % b)] else []
theorem iY_{b S n:Nat}(hb:0<b)(hn:n<b ^ S):∀i,i<=S->∀x∈upTo b S n i,StrOk b S x
 | 0,_,x,hx=>by simp[upTo] at hx
 | i+1,hi,x,hx=>by
  rw[upTo] at hx
  rcases List.mem_append.mp hx with hx | hx
  ·exact iY_ hb hn i (by lia) x hx
  ·split at hx
   ·rename_i h
    have e:x=(n / b ^ (S-i),i,n / b ^ (S-1-i) % b):=by simpa using hx
    subst e
    refine⟨by simp only;lia,h,Nat.le_of_lt (Nat.mod_lt _ hb),?_⟩
    show n / b ^ (S-i)<b ^ i
    rw[Nat.div_lt_iff_lt_mul (Nat.pow_pos hb),<-Nat.pow_add]
    have:i+(S-i)=S:=by lia
    rw[this]
    exact hn
   ·simp at hx
theorem dK_(b S n:Nat):∀i,(upTo b S n i).length<=i
 | 0=>by simp[upTo]
 | i+1=>by
  rw[upTo,List.length_append]
  have:=dK_ b S n i
  split <;> simp <;> lia
theorem lu_(b S:Nat)(L M:List Stre)(g:Nat->Int):strS b S (L++M) g=strS b S L g+strS b S M g:=by simp[strS]
theorem hk_{b S n:Nat}(hb:0<b)(hn:n<b ^ S)(g:Nat->Int):∀i,i<=S->strS b S (upTo b S n i) g=ns g (n / b ^ (S-i)*b ^ (S-i))
 | 0,_=>by
  rw[Nat.sub_zero,Nat.div_eq_of_lt hn,Nat.zero_mul]
  rfl
 | i+1,hi=>by
  rw[upTo,lu_,hk_ hb hn g i (by lia)]
  have e1:S-(i+1)=S-1-i:=by lia
  have e2:S-i=S-1-i+1:=by lia
  rw[e1]
  generalize hk:S-1-i=k at *
  have e3:n / b ^ k*b ^ k=n / b ^ (k+1)*b ^ (k+1)+n / b ^ k % b*b ^ k:=by
   have h1:=Nat.div_add_mod (n / b ^ k) b
   rw[Nat.div_div_eq_div_mul,<-Nat.pow_succ] at h1
   have h2:n / b ^ (k+1)*b ^ (k+1)=b*(n / b ^ (k+1))*b ^ k:=by
    rw[Nat.pow_succ' (m:=b) (n:=k)]
    rw[Nat.mul_comm b (n / _),Nat.mul_assoc]
   rw[h2,<-Nat.add_mul,h1]
  rw[e2,e3,fv_]
  congr 1
  split
  ·rename_i h
   have e4:S-i-1=k:=by lia
   simp only[strS,sLo,sN,List.map_cons,List.map_nil,List.sum_cons,List.sum_nil,e2,Int.add_zero]
   have e5:k+1-1=k:=by lia
   rw[e5]
  ·rename_i h
   have e6:n / b ^ k % b=0:=by lia
   rw[e6,Nat.zero_mul]
   rfl
theorem lp_{b S n:Nat}(hb:0<b)(hn:n<b ^ S)(g:Nat->Int):strS b S (upTo b S n S) g=ns g n:=by
 rw[hk_ hb hn g S (Nat.le_refl _),Nat.sub_self,Nat.pow_zero,Nat.div_one,Nat.mul_one]
theorem iS_{b S:Nat}(hS:0<S)(g:Nat->Int):strS b S [(0,0,b)] g=ns g (b ^ S):=by
 have e:b*b ^ (S-1)=b ^ S:=by
  rw[<-Nat.pow_succ']
  congr 1
  lia
 simp only[strS,sLo,sN,List.map_cons,List.map_nil,List.sum_cons,List.sum_nil,Nat.sub_zero,Nat.zero_mul,Nat.zero_add,Int.add_zero,e]
theorem mh_{b n S i:Nat}(hb:0<b)(hn:n<b ^ S)(hi:i<=S):(Ma.dws b n S S).take i=Ma.dws b (n / b ^ (S-i)) i i:=by
 have:=gT_ (b:=b) (a:=n) (pl:=S) (o:=0) (l:=i) (by lia)
 rw[List.drop_zero,Nat.sub_zero] at this
 rw[this,Nat.mod_eq_of_lt]
 rw[Nat.div_lt_iff_lt_mul (Nat.pow_pos hb),<-Nat.pow_add]
 have:i+(S-i)=S:=by lia
 rw[this]
 exact hn
end Mu
namespace Hv
open PySem L2
def StrAt(H:Hp)(b:Nat)(t:Addr)(x:Mu.Stre):Prop:=∃h,H t=some (.tup [.ref h,.int (x.2.2:Int)])/\H h=some (.lst (natV (Ma.dws b x.1 x.2.1 x.2.1)))
theorem StrAt.keep{H H':Hp}{b:Nat}{t:Addr}{x:Mu.Stre}(h:StrAt H b t x)(s:Same H H'):StrAt H' b t x:=let ⟨a,h1,h2⟩:=h;⟨a,s _ _ h1,s _ _ h2⟩
def bG_:Sp:=fun vs H Q _=>∃f a c b ps ws,∃n:Nat,vs=[.ref f,.int n]/\FrAt H f a c b ps ws/\n<=b ^ ps.sum/\
 ∀(p:Addr) (ts:List Addr) (L:List Mu.Stre) (H':Hp),H p=none->Same H H'->H' p=some (.lst (ts.map V.ref))->Paired (StrAt H' b) ts L->L.length<=24->(∀x∈L,Mu.StrOk b ps.sum x)->(∀g,Mu.strS b ps.sum L g=Mg.ns g n)->Q (.ref p) H'
section
variable{P:Program}{w:World}{K:PySem.W.Frag}{mg:Str->Option Value}{base:Heap}
theorem cP_:FnScope ["frame","n","figures"] ["frame","n"] (h_ bv_):=⟨rfl,rfl,rfl,by decide +kernel,rfl,by decide +kernel,by decide +kernel⟩
theorem fn_{f:Addr}{fd:FuncData}(F:Fun K "stretches_below" "stretches_below" bv_ f fd)(T:Txt mg)(D6:Def P w K mg base 6 "how_many" ["frame"] N_)(D8:Def P w K mg base 8 "figures_of" ["frame","n"] ai_):FnOk P w K mg base CX0 9 f fd ["frame","n"] bG_:=by
 refine F.ok cP_ (fun vs H Q E h=>?_) (fun cdv A outer s H vs Q E hr h=>?_)
 ·obtain⟨g,a,c,b,ps,ws,n,rfl,_⟩:=h;rfl
 ·obtain⟨g,a,c,b,ps,ws,n,rfl,G,hn,k⟩:=h
  have nd:=cP_.nd
  have ok:=G.ok
  have hsum:=ok.sum
  have b2:=ok.b2
  have b0:0<b:=by lia
  refine⟨_,b_ (W_ (z_ cl_ (pv 1) (p_ D6 hr.mo (by rfl) (a_ (pv 0) d_)) (nomark _)) (g_ (q_ (s_ (a_ (bD_ (a_ (s_ d_) (a_ (ixt (pv 0) e_) d_))) d_)))) w_)
   (b_ (i_ (i:=2) nd rfl (Or.inr rfl) (p_ D8 hr (by rfl) (a_ (pv 0) (a_ (pv 1) d_))))
   (g_ (q_ (aZ_ (h_ bv_) ["frame","n","figures"] ["figures"] [2] rfl (y_ (by rfl) T.range (a_ (lenS T.len (by rfl) (pv 2)) d_)) (fun cl C s H fp=>mH_ (z_ ir_ (ixlK K rfl (pv 1) (pv 0)) e_ (nomark _)))
    (fun cl C s H fp=>bD_ (a_ (aD_ (hr_ K rfl) (pv 1) cW_ (au_ (pv 0))) (a_ (ixlK K rfl (pv 1) (pv 0)) d_))) (by decide +kernel))))),?_⟩
  refine⟨_,rfl,_,rfl,g,a,c,b,ps,ws,rfl,G,fun H1 s1=>⟨rfl,_,rfl,?_⟩⟩
  have G1:=G.keep s1
  by_cases he:n=b ^ ps.sum
  ·rw[decide_eq_true (by rw[he])]
   refine iteT ⟨sz (by decide),fun p1 hp1=>?_⟩
   have t1:=f_ (o:=.lst []) hp1
   have G2:=G1.keep t1
   have u1:(upd H1 p1 (.lst [])) p1=_:=c_
   generalize upd H1 p1 (.lst [])=H2 at t1 G2 u1⊢
   refine⟨_,rfl,_,_,_,_,rfl,rfl,SqT.of G2.tp,rfl,sz (by simp),fun p2 hp2=>⟨sz (by simp),fun p3 hp3=>?_⟩⟩
   have t2:=f_ (o:=.tup [.ref p1,.int (b:Int)]) hp2
   have t3:=f_ (o:=.lst [.ref p2]) hp3
   refine k p3 [p2] [(0,0,b)] _ (s1.free (t1.free (t2.free hp3))) (((s1.trans t1).trans t2).trans t3) c_ (.cons ⟨p1,t3 _ _ c_,t3 _ _ (t2 _ _ u1)⟩ .nil) (by simp) (fun x hx=>?_) (fun g=>?_)
   ·have:x=(0,0,b):=by simpa using hx
    subst this
    exact⟨by simp only;lia,by simp only;lia,Nat.le_refl _,by simp⟩
   ·rw[he]
    exact Mu.iS_ (by lia) g
  ·have hlt:n<b ^ ps.sum:=by lia
   rw[decide_eq_false (by intro z;cases z;exact he rfl)]
   refine iteF ⟨_,rfl,_,rfl,g,a,c,b,ps,ws,n,rfl,G1,hlt,fun r H2 hr1 s2 h2=>?_⟩
   have el:(natV (Ma.dws b n ps.sum ps.sum)).length=ps.sum:=by rw[natV,List.length_map,Ma.M_]
   refine⟨_,rfl,r,_,rfl,.inl (SqL.of h2),_,rfl,by lia,by lia,aT_ (lo:=0) (n:=(((natV (Ma.dws b n ps.sum ps.sum)).length:Nat):Int).toNat) (fun i ys H3=>∃ts:List Addr,ys=ts.map V.ref/\Same H2 H3/\Paired (StrAt H3 b) ts (Mu.upTo b ps.sum n i)) ⟨[],rfl,Same.refl _,.nil⟩ ?_ ?_⟩
   ·rintro i ys H3 hi ⟨ts,rfl,s3,PR⟩
    have hi':i<ps.sum:=by lia
    have tl:ts.length<=i:=by rw[Paired.length PR];exact Mu.dK_ b ps.sum n i
    have ez:(0:Int)+(i:Int)=(i:Int):=Int.zero_add _
    have ea:atI (natV (Ma.dws b n ps.sum ps.sum)) (0+(i:Int))=some (.int ((n / b ^ (ps.sum-1-i) % b:Nat):Int)):=by
     rw[ez]
     exact V_ (by rw[natV,List.getElem?_map,Mu.hY_ hi'];rfl)
    refine⟨szl (by rw[List.length_map];lia),_,rfl,_,rfl,bB_ (s3 _ _ h2) ea ⟨_,_,rfl,rfl,_,rfl,?_⟩⟩
    by_cases hd:0<n / b ^ (ps.sum-1-i) % b
    ·rw[decide_eq_true (by lia)]
     refine iteT ⟨_,rfl,_,rfl,_,rfl,r,_,rfl,SqL.of (s3 _ _ h2),fun q hq=>?_⟩
     have eg:cutV (natV (Ma.dws b n ps.sum ps.sum)) none (some (0+(i:Int)))=natV (Ma.dws b (n / b ^ (ps.sum-i)) i i):=by
      rw[ez,kT_,<-Mu.mh_ b0 hlt (by lia)]
      simp[natV,List.map_take]
     rw[eg]
     have t4:=f_ (o:=.lst (natV (Ma.dws b (n / b ^ (ps.sum-i)) i i))) hq
     have u4:(upd H3 q (.lst (natV (Ma.dws b (n / b ^ (ps.sum-i)) i i)))) q=_:=c_
     generalize upd H3 q (.lst (natV (Ma.dws b (n / b ^ (ps.sum-i)) i i)))=H4 at t4 u4⊢
     refine⟨_,rfl,_,rfl,bB_ (t4 _ _ (s3 _ _ h2)) ea ⟨sz (by simp),fun t ht=>?_⟩⟩
     have t5:=f_ (o:=.tup [.ref q,.int ((n / b ^ (ps.sum-1-i) % b:Nat):Int)]) ht
     refine⟨ts++[t],by rw[List.map_append];rfl,s3.trans (t4.trans t5),?_⟩
     rw[Mu.upTo,if_pos hd]
     exact Paired.snoc (L2.Paired.mapP PR fun _ _ h=>StrAt.keep h (t4.trans t5)) ⟨q,c_,t5 _ _ u4⟩
    ·rw[decide_eq_false (by lia)]
     refine iteF ⟨ts,rfl,s3,?_⟩
     rw[Mu.upTo,if_neg hd,List.append_nil]
     exact PR
   ·rintro ys H3 ⟨ts,rfl,s3,PR⟩ D hD
    have en:(((natV (Ma.dws b n ps.sum ps.sum)).length:Nat):Int).toNat=ps.sum:=by lia
    rw[en] at PR
    exact k D ts _ _ (s1.free (s2.free (s3.free hD))) ((s1.trans s2).trans (s3.trans (f_ hD))) c_ (L2.Paired.mapP PR fun _ _ h=>StrAt.keep h (f_ hD)) (Nat.le_trans (Mu.dK_ _ _ _ _) (by lia)) (Mu.iY_ b0 hlt _ (Nat.le_refl _)) (Mu.lp_ b0 hlt)
end
end Hv
namespace Mu
open Me Mg
def lo(b a pl o:Nat):Nat:=if o<=pl then a / b ^ (pl-o) else a*b ^ (o-pl)
def cn(b pl e o:Nat):Nat:=if o<=pl then 1 else e*b ^ (o-pl-1)
def plo(b a pl o l:Nat):Nat:=pq b a pl o l*b ^ (l-pj pl o l)
def pcn(b pl e o l:Nat):Nat:=pn pl e o l*b ^ (l-pj pl o l)
theorem jX_{b a pl e o l:Nat}(hb:0<b)(he:e<=b) :
  lo b a pl (o+l)=lo b a pl o*b ^ l+plo b a pl o l/\cn b pl e (o+l)=cn b pl e o*pcn b pl e o l/\(cn b pl e o=1\/(plo b a pl o l=0/\pcn b pl e o l=b ^ l))/\plo b a pl o l+pcn b pl e o l<=b ^ l:=by
 unfold lo cn plo pcn pj pq pn
 by_cases hA:o+l<=pl
 ·have h1:o<=pl:=by lia
  simp only[if_pos hA,if_pos h1,Nat.sub_self,Nat.pow_zero,Nat.mul_one]
  have e1:pl-(o+l)=pl-o-l:=by lia
  have e2:a / b ^ (pl-o)=a / b ^ (pl-o-l) / b ^ l:=by
   rw[Nat.div_div_eq_div_mul,<-Nat.pow_add]
   congr 2
   lia
  have h2:a / b ^ (pl-o-l) % b ^ l<b ^ l:=Nat.mod_lt _ (Nat.pow_pos hb)
  refine⟨?_,trivial,.inl trivial,h2⟩
  rw[e1,e2,Nat.mul_comm]
  exact(Nat.div_add_mod _ _).symm
 ·by_cases hC:o<=pl
  ·simp only[if_neg hA,if_pos hC]
   obtain⟨m,hm⟩:∃m,m=pl-o:=⟨_,rfl⟩
   obtain⟨r,hr⟩:∃r,r=l-m-1:=⟨_,rfl⟩
   have e1:l-(pl-o+1)=r:=by lia
   have e2:o+l-pl=r+1:=by lia
   have e3:l=m+1+r:=by lia
   rw[e1,e2,<-hm]
   have hbl:b ^ l=b ^ m*b*b ^ r:=by rw[e3,Nat.pow_add,Nat.pow_succ]
   have h2:a % b ^ m<b ^ m:=Nat.mod_lt _ (Nat.pow_pos hb)
   have h3:a % b ^ m*b+e<=b ^ m*b:=by
    have:(a % b ^ m+1)*b<=b ^ m*b:=Nat.mul_le_mul_right b h2
    rw[Nat.add_mul] at this
    lia
   refine⟨?_,?_,.inl trivial,?_⟩
   ·have h4:=Nat.div_add_mod a (b ^ m)
    have h5:a*b ^ (r+1)=(b ^ m*(a / b ^ m)+a % b ^ m)*b ^ (r+1):=by rw[h4]
    rw[h5,hbl,Nat.add_mul,Nat.pow_succ']
    congr 1
    ·rw[Nat.mul_comm (b ^ m),Nat.mul_assoc,Nat.mul_assoc]
    ·rw[Nat.mul_assoc]
   ·have e4:r+1-1=r:=by lia
    rw[e4,Nat.one_mul]
   ·rw[<-Nat.add_mul,hbl]
    exact Nat.mul_le_mul_right _ h3
  ·have h1:¬ o+l<=pl:=hA
   simp only[if_neg hA,if_neg hC,Nat.zero_mul,Nat.sub_zero,Nat.one_mul,Nat.add_zero,Nat.zero_add,Nat.le_refl,and_true,or_true]
   have e1:o+l-pl=(o-pl)+l:=by lia
   have e2:o+l-pl-1=(o-pl-1)+l:=by lia
   rw[e2,e1,Nat.pow_add,Nat.pow_add]
   exact⟨(Nat.mul_assoc _ _ _).symm,(Nat.mul_assoc _ _ _).symm⟩
theorem od_{b a pl:Nat}(ha:a<b ^ pl):lo b a pl 0=0:=by
 unfold lo
 rw[if_pos (Nat.zero_le _),Nat.sub_zero]
 exact Nat.div_eq_of_lt ha
theorem om_(b pl e:Nat):cn b pl e 0=1:=by unfold cn;rw[if_pos (Nat.zero_le _)]
theorem pc_{b S:Nat}{x:Stre}(h:x.2.1<S):lo b x.1 x.2.1 S=sLo b S x/\cn b x.2.1 x.2.2 S=sN b S x:=by
 unfold lo cn
 rw[if_neg (by lia),if_neg (by lia)]
 exact⟨rfl,rfl⟩
end Mu
namespace Hv
open PySem L2
theorem bZ_{α β:Type}{R:α->β->Prop}:∀ {as:List α} {bs:List β},Paired R as bs->∀ {i:Nat} {a:α},as[i]?=some a->∃b,bs[i]?=some b/\R a b
 | _,_,.cons h t,0,a,e=>by cases e;exact⟨_,rfl,h⟩
 | _,_,.cons h t,i+1,a,e=>by
  rw[List.getElem?_cons_succ] at e
  obtain⟨b,h1,h2⟩:=bZ_ t e
  exact⟨b,by rw[List.getElem?_cons_succ];exact h1,h2⟩
theorem dy_{qs:List Addr}{i:Nat}{x:V}(h:(qs.map V.ref)[i]?=some x):∃q,qs[i]?=some q/\x=.ref q:=by
 rw[List.getElem?_map] at h
 cases e:qs[i]? with
 | none=>rw[e] at h;cases h
 | some d=>rw[e] at h;exact⟨d,rfl,(Option.some.inj h).symm⟩
end Hv
namespace Mu
open Me Mg
end Mu
namespace Mu
open Me Mg
def wg(b:Nat)(row:List Int)(one:Int):Int×Int:=(ns (fun v=>if ws1 b v row=one then 1 else 0) (b ^ row.length),ns (fun v=>if ws1 b v row=one then (v:Int) else 0) (b ^ row.length))
def lst(b:Nat)(rows:List (List Int))(one:Int):List ((Int×Int)×Int):=rows.map fun row=>(wg b row one,((b ^ row.length:Nat):Int))
theorem cx_{b:Nat}(hb:0<b):∀(ps1 ps2:List Nat) (ws:List Int) (u z:Nat),u<b ^ ps1.sum->z<b ^ ps2.sum->ws.length=ps1.sum+ps2.sum->sumsN b (u*b ^ ps2.sum+z) (ps1++ps2) ws=sumsN b u ps1 (ws.take ps1.sum)++sumsN b z ps2 (ws.drop ps1.sum)
 | [],ps2,ws,u,z,hu,hz,hw=>by
  have h0:u=0:=by simpa using hu
  subst h0
  have e:sumsN b 0 [] (ws.take ([]:List Nat).sum)=[]:=rfl
  rw[e]
  simp
 | p::ps1,ps2,ws,u,z,hu,hz,hw=>by
  rw[List.sum_cons] at hu hw
  have hL0:0<b ^ ps1.sum:=Nat.pow_pos hb
  have em:u=u / b ^ ps1.sum*b ^ ps1.sum+u % b ^ ps1.sum:=by rw[Nat.mul_comm];exact(Nat.div_add_mod u _).symm
  have hm2:u % b ^ ps1.sum<b ^ ps1.sum:=Nat.mod_lt _ hL0
  have hd:u / b ^ ps1.sum<b ^ p:=Nat.div_lt_of_lt_mul (by rw[<-Nat.pow_add,Nat.add_comm];exact hu)
  rw[em]
  generalize u / b ^ ps1.sum=d at *
  generalize u % b ^ ps1.sum=m at *
  have e1:(d*b ^ ps1.sum+m)*b ^ ps2.sum+z=d*b ^ (ps1++ps2).sum+(m*b ^ ps2.sum+z):=by
   rw[List.sum_append,Nat.pow_add,Nat.add_mul,Nat.mul_assoc]
   lia
  have hlt:m*b ^ ps2.sum+z<b ^ (ps1++ps2).sum:=by
   rw[List.sum_append,Nat.pow_add]
   have:(m+1)*b ^ ps2.sum<=b ^ ps1.sum*b ^ ps2.sum:=Nat.mul_le_mul_right _ hm2
   rw[Nat.add_mul] at this
   lia
  rw[e1,List.cons_append,bg_ hb hlt (by rw[List.sum_append];lia),cx_ hb ps1 ps2 (ws.drop p) m z hm2 hz (by rw[List.length_drop];lia),List.sum_cons]
  rw[bg_ hb hm2 (by rw[List.length_take];lia),List.take_take,List.drop_take,List.drop_drop,List.cons_append]
  have e2:min p (p+ps1.sum)=p:=by lia
  have e3:p+ps1.sum-p=ps1.sum:=by lia
  rw[e2,e3]
end Mu
namespace Mu
open Me Mg
end Mu
namespace Mu
open Me Mg
theorem kM_{b n k:Nat}:n / b ^ k=n / b ^ (k+1)*b+n / b ^ k % b:=by
 rw[Nat.pow_succ,<-Nat.div_div_eq_div_mul,Nat.mul_comm]
 exact(Nat.div_add_mod _ _).symm
theorem fk_{b n k i:Nat}:n / b ^ k=n / b ^ (k+i)*b ^ i+n / b ^ k % b ^ i:=by
 rw[Nat.pow_add,<-Nat.div_div_eq_div_mul,Nat.mul_comm]
 exact(Nat.div_add_mod _ _).symm
theorem eT_{b:Nat}(hb:0<b){ps1:List Nat}{p u v:Nat}{ws:List Int}(hu:u<b ^ ps1.sum)(hv:v<b ^ p)(hw:ps1.sum+p<=ws.length):sumsN b (u*b ^ p+v) (ps1++[p]) (ws.take (ps1.sum+p))=sumsN b u ps1 (ws.take ps1.sum)++[ws1 b v ((ws.drop ps1.sum).take p)]:=by
 have hs:[p].sum=p:=by simp
 have:=cx_ hb ps1 [p] (ws.take (ps1.sum+p)) u v hu (by rw[hs];exact hv) (by rw[List.length_take,hs];lia)
 rw[hs] at this
 rw[this,List.take_take,Nat.min_eq_left (by lia),List.drop_take]
 congr 1
 have e0:ps1.sum+p-ps1.sum=p:=by lia
 rw[e0]
 have hz:(0:Nat)<b ^ ([]:List Nat).sum:=by simp
 have e1:=bg_ (b:=b) (d:=v) (m:=0) (p:=p) (ps:=[]) (ws:=(ws.drop ps1.sum).take p) hb hz (by rw[List.length_take,List.length_drop];simp;lia)
 have e2:v*b ^ ([]:List Nat).sum+0=v:=by simp
 rw[e2] at e1
 rw[e1,List.take_take,Nat.min_self]
 rfl
end Mu
namespace Mx
open Me Mg Mu
def trG:List (List (Int×Int))->(List Int->Int)->Int
 | [],F=>F []
 | g::gs,F=>tg g fun x=>trG gs fun v=>F (x::v)
theorem dq_{lo hi:Int}:∀ {gs:List (List (Int×Int))} {F G:List Int->Int},(∀g∈gs,∀k∈keys g,lo<=k/\k<=hi)->(∀v,v.length=gs.length->(∀x∈v,lo<=x/\x<=hi)->F v=G v)->trG gs F=trG gs G
 | [],_,_,_,h=>h [] rfl fun _ z=>by simp at z
 | g :: gs, _, _, hk, h => ji_ fun x hx => dq_ (fun r hr => hk r (by simp[hr])) fun v hv hb => h (x :: v) (by simp[hv]) fun y hy => by
   rcases List.mem_cons.mp hy with rfl | hy
   ·exact hk g (by simp) _ hx
   ·exact hb y hy
theorem eR_:∀ {gs:List (List (Int×Int))} {F G:List Int->Int},(∀v,v.length=gs.length->F v=G v)->trG gs F=trG gs G
 | [],_,_,h=>h [] rfl
 | _::gs,_,_,h=>G_ fun x=>eR_ fun v hv=>h (x::v) (by simp[hv])
theorem gc_(c:Int):∀(gs:List (List (Int×Int))) (F:List Int->Int),trG gs (fun v=>c*F v)=c*trG gs F
 | [],_=>rfl
 | g::gs,F=>by
  show tg _ _=c*tg _ _
  rw[<-eS_]
  exact G_ fun x=>gc_ c gs _
theorem jf_:∀(gs:List (List (Int×Int))) (F G:List Int->Int),trG gs (fun v=>F v-G v)=trG gs F-trG gs G
 | [],_,_=>rfl
 | g::gs,F,G=>by
  show tg _ _=tg _ _-tg _ _
  rw[<-ot_]
  exact G_ fun x=>jf_ gs _ _
theorem ho_:∀(gs:List (List (Int×Int))) (F G:List Int->Int),trG gs (fun v=>F v+G v)=trG gs F+trG gs G
 | [],_,_=>rfl
 | g::gs,F,G=>by
  show tg _ _=tg _ _+tg _ _
  rw[<-gf_]
  exact G_ fun x=>ho_ gs _ _
theorem lr_(gs:List (List (Int×Int))):trG gs (fun _=>0)=0:=by
 have:=gc_ 0 gs fun _=>0
 simp only[Int.zero_mul] at this
 exact this
theorem ms_(gs:List (List (Int×Int)))(F:Int->List Int->Int)(a:Int):∀n:Nat,trG gs (fun v=>Mq.sm (fun t=>F t v) a n)=Mq.sm (fun t=>trG gs (F t)) a n
 | 0=>lr_ gs
 | n+1=>by
  simp only[Mq.sm]
  rw[ho_,ms_ gs F a n]
theorem hn_(h:Int->Int):∀gs:List (List (Int×Int)),trG gs (fp h)=gs.foldl (fun m g=>m*tg g h) 1
 | []=>rfl
 | g::gs=>by
  have e:∀(rs:List (List (Int×Int))) (c:Int),rs.foldl (fun m g=>m*tg g h) c=c*rs.foldl (fun m g=>m*tg g h) 1:=fun rs=>by
   induction rs with
   | nil=>intro c;simp
   | cons r rs ih=>intro c;rw[List.foldl_cons,List.foldl_cons,ih (c*_),ih (1*_),Int.one_mul,Int.mul_assoc]
  rw[List.foldl_cons,e gs,Int.one_mul,<-hn_ h gs]
  show tg g (fun x=>trG gs fun v=>fp h (x::v))=_
  have e2:∀x,trG gs (fun v=>fp h (x::v))=trG gs (fp h)*h x:=fun x=>by
   rw[Int.mul_comm,<-gc_]
   exact eR_ fun v _=>by
    unfold fp
    rw[List.foldl_cons,cG_,Int.one_mul]
  rw[G_ e2,eS_,Int.mul_comm]
theorem ov_{g:List (Int×Int)}(nd:(keys g).Nodup)(a:Int)(n:Nat):tg g (iv a n)=Mq.sm (fun t=>gv g t) a n:=by
 have e:∀x,iv a n x=Mq.sm (fun t=>if x=t then 1 else 0) a n:=fun x=>(dV_ x a n).symm
 rw[G_ e,ou_ g (fun t x=>if x=t then 1 else 0)]
 apply Mq.bu_
 intro t _ _
 exact cw_ nd
theorem mt_{gs:List (List (Int×Int))}(hg:∀g∈gs,DOk g)(a:Int)(n:Nat):trG gs (fp (iv a n))=Mq.pr (fG gs) a n:=by
 rw[hn_]
 unfold Mq.pr fG
 rw[List.foldl_map]
 have key:∀(rs:List (List (Int×Int))) (c:Int),(∀g∈rs,DOk g)->rs.foldl (fun m g=>m*tg g (iv a n)) c=rs.foldl (fun m g=>m*Mq.sm (fun t=>gv g t) a n) c:=fun rs=>by
  induction rs with
  | nil=>intro c _;rfl
  | cons r rs ih =>
   intro c h
   rw[List.foldl_cons,List.foldl_cons,ov_ (h r (by simp)).nd]
   exact ih _ fun g hg=>h g (by simp[hg])
 exact key gs 1 hg
theorem lP_{gs:List (List (Int×Int))}(hne:0<gs.length)(hg:∀g∈gs,DOk g)(d:Nat):nearG gs d=trG gs fun v=>if sprd v<=d then 1 else 0:=by
 have B:=hb_ hne hg
 have nl:0<(losG gs).length:=by rw[losG,List.length_map];exact hne
 have nh:0<(hisG gs).length:=by rw[hisG,List.length_map];exact hne
 rw[dq_ (G:=fun v=>Mq.sm (fun a=>fp (iv a (d+1)) v-fp (iv (a+1) d) v) (Ma.minL (losG gs)) (Ma.maxL (hisG gs)-Ma.minL (losG gs)+1).toNat) (lo:=Ma.minL (losG gs)) (hi:=Ma.maxL (hisG gs))
  (fun g hgm k hk=>⟨?_,?_⟩) fun v hv hx=>?_]
 ·rw[ms_ gs fun a v=>fp (iv a (d+1)) v-fp (iv (a+1) d) v]
  unfold nearG
  apply Mq.bu_
  intro a _ _
  rw[jf_,mt_ hg,mt_ hg]
  rfl
 ·have h1:=(Ma.v_ _ (hg g hgm).ne).2 k hk
  have h2:=(Ma.v_ _ nl).2 _ (List.mem_map.mpr ⟨g,hgm,rfl⟩)
  lia
 ·have h1:=(Ma.x_ _ (hg g hgm).ne).2 k hk
  have h2:=(Ma.x_ _ nh).2 _ (List.mem_map.mpr ⟨g,hgm,rfl⟩)
  lia
 ·have hv0:0<v.length:=by lia
  have m1:=hx _ (Ma.v_ v hv0).1
  exact win hv0 (by lia) (by lia)
theorem hm_(g:List (Int×Int)):∀(gs:List (List (Int×Int))) (F:List Int->Int),trG (gs++[g]) F=trG gs fun v=>tg g fun x=>F (v++[x])
 | [],F=>rfl
 | h::gs,F=>by
  show tg h (fun x=>trG (gs++[g]) fun v=>F (x::v))=tg h fun x=>trG gs fun v=>tg g fun y=>F (x::v++[y])
  exact G_ fun x=>hm_ g gs _
structure RepC(g:List (Int×Int))(lo n:Nat)(s:Nat->Int):Prop where
 ok:DOk g
 eq:∀F:Int->Int,tg g F=ns (fun i=>F (s (lo+i))) n
theorem hl_{b:Nat}(hb:0<b){x:Stre}(he:x.2.2<=b)(h1:1<=x.2.2)(ha:x.1<b ^ x.2.1){ps:List Nat}{ws:List Int}(hw:ws.length=ps.sum){gs:List (List (Int×Int))}(hl:gs.length=ps.length)
  (hg:∀i l row g,ps[i]?=some l->(Ma.cuts ps ws)[i]?=some row->gs[i]?=some g->RepC g (plo b x.1 x.2.1 (ps.take i).sum l) (pcn b x.2.1 x.2.2 (ps.take i).sum l) (fun n=>ws1 b n row)) :
  ∀j,j<=ps.length->lo b x.1 x.2.1 (ps.take j).sum+cn b x.2.1 x.2.2 (ps.take j).sum<=b ^ (ps.take j).sum/\∀F:List Int->Int,trG (gs.take j) F=ns (fun k=>F (sumsN b (lo b x.1 x.2.1 (ps.take j).sum+k) (ps.take j) (ws.take (ps.take j).sum))) (cn b x.2.1 x.2.2 (ps.take j).sum)
 | 0,_=>by
  have e1:(ps.take 0).sum=0:=by simp
  rw[e1,od_ ha,om_]
  refine⟨by simp,fun F=>?_⟩
  show F []=_
  simp only[ns,Int.zero_add]
  rfl
 | j+1,hj=>by
  obtain⟨ih0,ih⟩:=hl_ hb he h1 ha hw hl hg j (by lia)
  obtain⟨l,hl'⟩:∃l,ps[j]?=some l:=⟨_,List.getElem?_eq_getElem (by lia)⟩
  obtain⟨g,hg'⟩:∃g,gs[j]?=some g:=⟨_,List.getElem?_eq_getElem (by lia)⟩
  have hrow:=Ma.aF_ ps ws j l hl'
  have R:=hg j l _ g hl' hrow hg'
  have st:=jX_ (b:=b) (a:=x.1) (pl:=x.2.1) (e:=x.2.2) (o:=(ps.take j).sum) (l:=l) hb he
  have et:ps.take (j+1)=ps.take j++[l]:=by rw[List.take_add_one,hl'];rfl
  have es:(ps.take (j+1)).sum=(ps.take j).sum+l:=by rw[et,List.sum_append];simp
  have hle:(ps.take j).sum+l<=ws.length:=by
   have h2:=congrArg List.sum (List.take_append_drop (j+1) ps)
   rw[List.sum_append] at h2
   lia
  obtain⟨A,hA⟩:∃A,A=(ps.take j).sum:=⟨_,rfl⟩
  have egt:gs.take (j+1)=gs.take j++[g]:=by rw[List.take_add_one,hg'];rfl
  rw[es,st.1,st.2.1]
  refine⟨?_,fun F=>?_⟩
  ·rw[Nat.pow_add]
   have p1:=st.2.2.2
   rcases st.2.2.1 with q | ⟨q1,q2⟩
   ·rw[q] at ih0⊢
    have:(lo b x.1 x.2.1 (ps.take j).sum+1)*b ^ l<=b ^ (ps.take j).sum*b ^ l:=Nat.mul_le_mul_right _ ih0
    rw[Nat.add_mul] at this
    lia
   ·rw[q1,q2,Nat.add_zero,<-Nat.add_mul]
    exact Nat.mul_le_mul_right _ ih0
  ·rw[egt,hm_,ih]
   have e2:∀k,k<cn b x.2.1 x.2.2 (ps.take j).sum->tg g (fun y=>F (sumsN b (lo b x.1 x.2.1 (ps.take j).sum+k) (ps.take j) (ws.take (ps.take j).sum)++[y]))=ns (fun i=>F (sumsN b ((lo b x.1 x.2.1 (ps.take j).sum+k)*b ^ l+(plo b x.1 x.2.1 (ps.take j).sum l+i)) (ps.take (j+1)) (ws.take ((ps.take j).sum+l)))) (pcn b x.2.1 x.2.2 (ps.take j).sum l):=fun k hk=>by
    rw[R.eq]
    refine L_ fun i hi=>?_
    have hp:=st.2.2.2
    rw[et,eT_ hb (by lia) (by lia) hle]
   rw[L_ e2,lO_ (fun m=>F (sumsN b m (ps.take (j+1)) (ws.take ((ps.take j).sum+l)))) st.2.2.1]
theorem ii_{b:Nat}(hb:0<b){x:Stre}{ps:List Nat}{ws:List Int}(SO:StrOk b ps.sum x)(hw:ws.length=ps.sum){gs:List (List (Int×Int))}(hl:gs.length=ps.length)
  (hg:∀i l row g,ps[i]?=some l->(Ma.cuts ps ws)[i]?=some row->gs[i]?=some g->RepC g (plo b x.1 x.2.1 (ps.take i).sum l) (pcn b x.2.1 x.2.2 (ps.take i).sum l) (fun n=>ws1 b n row)) (F:List Int->Int) :
  trG gs F=ns (fun k=>F (sumsN b (sLo b ps.sum x+k) ps ws)) (sN b ps.sum x):=by
 have h:=(hl_ hb SO.eb SO.e1 SO.ha hw hl hg ps.length (Nat.le_refl _)).2 F
 have e1:gs.take ps.length=gs:=by rw[<-hl,List.take_length]
 have e2:ws.take ps.sum=ws:=by rw[<-hw,List.take_length]
 have hend:=pc_ (b:=b) SO.pl
 rw[e1,List.take_length,e2,hend.1,hend.2] at h
 exact h
end Mx
namespace Mx
open Me Mg Mu
theorem tg_perm{f g:List (Int×Int)}(h:f.Perm g)(F:Int->Int):tg f F=tg g F:=by
 unfold tg
 exact Me.lt_ (h.map _)
theorem tg_take{f:List (Int×Int)}{i:Nat}{p:Int×Int}(h:f[i]?=some p)(F:Int->Int):tg (f.take (i+1)) F=tg (f.take i) F+p.2*F p.1:=by
 unfold tg
 rw[List.take_add_one,h,List.map_append,List.sum_append]
 simp
theorem RepC.of{g:List (Int×Int)}{lo n:Nat}{s:Nat->Int}(o:Ok g 810)(hn:0<n)(hm:n<=16777216)(eq:∀F:Int->Int,tg g F=ns (fun i=>F (s (lo+i))) n):RepC g lo n s:=by
 have hne:0<(keys g).length:=by
  cases g with
  | nil =>
   have:=eq fun _=>1
   rw[ev_] at this
   have e:tg [] (fun _=>(1:Int))=0:=rfl
   rw[e] at this
   lia
  | cons p r=>simp[keys]
 refine⟨⟨hne,o.nd,o.bd,fun t=>?_⟩,eq⟩
 rw[<-cw_ o.nd,eq]
 refine⟨nX_ fun i _=>by split <;> decide,?_⟩
 have h1:=oW_ (g:=fun i=>if s (lo+i)=t then (1:Int) else 0) (h:=fun _=>1) (n:=n) fun i _=>by split <;> decide
 rw[ev_,Int.mul_one] at h1
 lia
end Mx
namespace Hv
open PySem L2
def dk_(H:Hp)(b:Nat)(ts:List Addr)(ws:List Int):Prop:=∀(k:Nat) (t:Addr),ts[k]?=some t->∃g,H t=some (.dK (intsD g))/\g.Perm (Me.waysW b (ws.drop k))
theorem dk_.keep{H H':Hp}{b:Nat}{ts:List Addr}{ws:List Int}(h:dk_ H b ts ws)(s:Same H H'):dk_ H' b ts ws:=fun k t e=>let ⟨g,a1,a2⟩:=h k t e;⟨g,s _ _ a1,a2⟩
def dR_:Sp:=fun vs H Q _=>∃(b:Nat) (c:Addr) (ws:List Int),vs=[.int b,.ref c]/\H c=some (.lst (ws.map V.int))/\b<=16/\(∀x∈ws,-9<=x/\x<=9)/\ws.length<=6/\
 ∀(p:Addr) (ts:List Addr) (H':Hp),H p=none->Same H H'->H' p=some (.lst (ts.map V.ref))->ts.length=ws.length+1->dk_ H' b ts ws->Q (.ref p) H'
def bO_(H:Hp)(b:Nat)(ps:List Nat)(ws:List Int)(tds:List Addr):Prop:=∀(i:Nat) (row:List Int) (d:Addr),(Ma.cuts ps ws)[i]?=some row->tds[i]?=some d->∃ts:List Addr,H d=some (.lst (ts.map V.ref))/\ts.length=row.length+1/\dk_ H b ts row
theorem bO_.keep{H H':Hp}{b:Nat}{ps:List Nat}{ws:List Int}{tds:List Addr}(h:bO_ H b ps ws tds)(s:Same H H'):bO_ H' b ps ws tds:=fun i row d a1 a2=>let ⟨ts,b1,b2,b3⟩:=h i row d a1 a2;⟨ts,s _ _ b1,b2,b3.keep s⟩
def cJ_:Sp:=fun vs H Q _=>∃f a c b ps ws,vs=[.ref f]/\FrAt H f a c b ps ws/\∀(p:Addr) (tds:List Addr) (H':Hp),H p=none->Same H H'->H' p=some (.lst (tds.map V.ref))->tds.length=ps.length->bO_ H' b ps ws tds->Q (.ref p) H'
def ci_:Sp:=fun vs H Q _=>∃(b:Nat) (rl c tl:Addr) (rs ts:List Addr) (ws:List Int) (q j:Nat),vs=[.ref rl,.ref c,.ref tl]/\H rl=some (.lst (rs.map V.ref))/\H c=some (.lst (ws.map V.int))/\H tl=some (.lst (ts.map V.ref))/\ts.length=ws.length+1/\dk_ H b ts ws/\
 2<=b/\b<=16/\(∀x∈ws,-9<=x/\x<=9)/\ws.length<=6/\j<=ws.length/\RowsD H b j q rs/\0<rs.length/\
 ∀(p:Addr) (g:List (Int×Int)) (H':Hp),H p=none->Same H H'->H' p=some (.dK (intsD g))->Mx.RepC g (q*b ^ (ws.length-j)) (rs.length*b ^ (ws.length-j)) (fun n=>Mg.ws1 b n ws)->Q (.ref p) H'
section
variable{P:Program}{w:World}{K:PySem.W.Frag}{mg:Str->Option Value}{base:Heap}
theorem lv_:FnScope ["base","weights"] ["base","weights"] (h_ az_):=⟨rfl,rfl,rfl,by decide +kernel,rfl,by decide +kernel,by decide +kernel⟩
theorem kc_{f:Addr}{fd:FuncData}(F:Fun K "tails_of_part" "tails_of_part" az_ f fd)(T:Txt mg)(DV:Def P w K mg base 2 "ways_of_weights" ["base","weights"] gi_):FnOk P w K mg base CX0 3 f fd ["base","weights"] dR_:=by
 refine F.ok lv_ (fun vs H Q E h=>?_) (fun cdv A outer s H vs Q E hr h=>?_)
 ·obtain⟨b,c,ws,rfl,_⟩:=h;rfl
 ·obtain⟨b,c,ws,rfl,hc,hb,hw,hl6,k⟩:=h
  refine⟨_,g_ (q_ (aZ_ (h_ az_) ["base","weights"] ["base","weights"] [0,1] rfl (y_ (by rfl) T.range (a_ (m_ r_ (lenS T.len (by rfl) (pv 1)) e_) d_)) (fun cl C s H fp=>av_)
   (fun cl C s H fp=>p_ DV hr (by rfl) (a_ (pv 1) (a_ (aD_ (hr_ K rfl) (pv 2) (au_ (pv 0)) cW_) d_))) (by decide +kernel))),?_⟩
  have el:(((ws.map V.int).length:Nat):Int)=(ws.length:Int):=by rw[List.length_map]
  refine⟨_,rfl,c,_,rfl,.inl (SqL.of hc),_,_,rfl,rfl,_,rfl,by rw[el];lia,by rw[el];lia,aT_ (lo:=0) (n:=((((ws.map V.int).length:Nat):Int)+1).toNat) (fun i ys H'=>∃ts:List Addr,ys=ts.map V.ref/\ts.length=i/\Same H H'/\dk_ H' b ts ws) ⟨[],rfl,rfl,Same.refl _,fun k t e=>by simp at e⟩ ?_ ?_⟩
  ·rintro i ys H1 hi ⟨ts,rfl,htl,s1,TC⟩
   have hi':i<=ws.length:=by rw[el] at hi;lia
   have ei:(0:Int)+(i:Int)=(i:Int):=Int.zero_add _
   rw[ei]
   refine⟨szl (by rw[List.length_map];lia),_,rfl,_,rfl,_,rfl,_,rfl,c,_,rfl,SqL.of (s1 _ _ hc),fun sl hsl=>?_⟩
   have ec:cutV (ws.map V.int) (some (i:Int)) none=(ws.drop i).map V.int:=by
    unfold cutV
    rw[HT.ed_,HT.hz_,List.length_map,Nat.min_eq_left hi',List.map_drop,List.take_of_length_le (by rw[List.length_drop,List.length_map];lia)]
   rw[ec]
   have s2:=f_ (o:=.lst ((ws.drop i).map V.int)) hsl
   have u2:(upd H1 sl (.lst ((ws.drop i).map V.int))) sl=_:=c_
   generalize upd H1 sl (.lst ((ws.drop i).map V.int))=H2 at s2 u2⊢
   refine⟨b,sl,ws.drop i,rfl,u2,hb,fun x hx=>hw x (List.mem_of_mem_drop hx),by rw[List.length_drop];lia,fun p H3 g hp s3 hp3 perm=>?_⟩
   have S3:=s1.trans (s2.trans s3)
   refine⟨ts++[p],by simp,by simp[htl],S3,fun k t e=>?_⟩
   by_cases hm:k<ts.length
   ·rw[List.getElem?_append_left hm] at e
    exact TC.keep (s2.trans s3) k t e
   ·have hk:k=i:=by
     have:=(List.getElem?_eq_some_iff.mp e).1
     simp at this
     lia
    subst hk
    rw[List.getElem?_append_right (by lia),htl,Nat.sub_self] at e
    have e1:p=t:=by simpa using e
    subst e1
    exact⟨g,hp3,perm⟩
  ·rintro ys H1 ⟨ts,rfl,htl,s1,TC⟩ l hl
   have htl':ts.length=ws.length+1:=by rw[htl,el];lia
   exact k l ts _ (s1.free hl) (s1.trans (f_ hl)) c_ htl' (TC.keep (f_ hl))
theorem jw_:FnScope ["frame"] ["frame"] (h_ al_):=⟨rfl,rfl,rfl,by decide +kernel,rfl,by decide +kernel,by decide +kernel⟩
theorem is_{f:Addr}{fd:FuncData}(F:Fun K "tails_of_parts" "tails_of_parts" al_ f fd)(DC:Def P w K mg base 1 "cut_by_parts" ["frame","row"] spCut)(DT:Def P w K mg base 3 "tails_of_part" ["base","weights"] dR_):FnOk P w K mg base CX0 4 f fd ["frame"] cJ_:=by
 refine F.ok jw_ (fun vs H Q E h=>?_) (fun cdv A outer s H vs Q E hr h=>?_)
 ·obtain⟨g,a,c,b,ps,ws,rfl,_⟩:=h;rfl
 ·obtain⟨g,a,c,b,ps,ws,rfl,G,k⟩:=h
  have ok:=G.ok
  have l4:=ok.l4
  refine⟨_,g_ (q_ (aZ_ (h_ al_) ["frame"] ["frame"] [0] rfl (J_ (p_ DC hr.mo (by rfl) (a_ (pv 0) (a_ (ixt (pv 0) e_) d_)))) (fun cl C s H fp=>av_)
   (fun cl C s H fp=>p_ DT hr (by rfl) (a_ (ixtK K rfl (pv 1) e_) (a_ (pv 0) d_))) (by decide +kernel))),?_⟩
  refine⟨_,rfl,_,rfl,_,_,_,_,rfl,rfl,SqT.of G.tp,rfl,g,a,c,b,ps,ws,c,ws,rfl,G,G.hw,fun wp qs H3 s3 hw3 rows=>⟨wp,rfl,⟨_,SqL.of hw3⟩,aj_ (K:=K) (a:=wp) (xs:=qs.map V.ref) (fun i ys H4=>∃tds:List Addr,ys=tds.map V.ref/\tds.length=i/\Same H3 H4/\bO_ H4 b ps ws tds)
   ⟨[],rfl,rfl,Same.refl _,fun i row d _ h=>by simp at h⟩ (fun i ys H4 _ p=>by obtain⟨_,_,_,z,_⟩:=p;exact SqL.of (z _ _ hw3)) ?_ ?_⟩⟩
  ·rintro i x ys H4 hx ⟨tds,rfl,htl,s4,TA⟩
   obtain⟨wq,hwq,rfl⟩:=dy_ hx
   obtain⟨row,hrow,hwr⟩:=bZ_ rows hwq
   have hrm:row∈Ma.cuts ps ws:=List.mem_of_getElem? hrow
   have G4:=(G.keep s3).keep s4
   have hi:i<4:=by
    have h1:=(List.getElem?_eq_some_iff.mp hrow).1
    rw[Ma.ah_] at h1
    lia
   refine⟨szl (by rw[List.length_map];lia),_,rfl,_,_,_,_,rfl,rfl,SqT.of G4.tp,rfl,_,rfl,b,wq,row,rfl,s4 _ _ hwr,ok.b16,fun y hy=>ok.wr y (Ma.bA_ hrm y hy),Ma.aS_ (fun p hp=>(ok.pr p hp).2) hrm,fun p ts H5 hp s5 hp5 hts5 TT=>?_⟩
   refine⟨tds++[p],by rw[List.map_append];rfl,by simp[htl],s4.trans s5,fun m row' d' a1 a2=>?_⟩
   by_cases hm:m<tds.length
   ·rw[List.getElem?_append_left hm] at a2
    exact TA.keep s5 m row' d' a1 a2
   ·have hm':m=i:=by
     have:=(List.getElem?_eq_some_iff.mp a2).1
     simp at this
     lia
    subst hm'
    rw[List.getElem?_append_right (by lia),htl,Nat.sub_self] at a2
    have e1:p=d':=by simpa using a2
    subst e1
    rw[hrow] at a1
    cases a1
    exact⟨ts,hp5,hts5,TT⟩
  ·rintro ys H4 ⟨tds,rfl,htl,s4,TA⟩ D hD
   have tdl:tds.length=ps.length:=by rw[htl,List.length_map,Paired.length rows,Ma.ah_]
   exact k D tds _ (s3.free (s4.free hD)) (s3.trans (s4.trans (f_ hD))) c_ tdl (TA.keep (f_ hD))
theorem ds_:FnScope ["rows","weights","tails","ways","row","begun","tail","total"] ["rows","weights","tails"] (h_ ab_):=⟨rfl,rfl,rfl,by decide +kernel,rfl,by decide +kernel,by decide +kernel⟩
theorem gD_{f:Addr}{fd:FuncData}(F:Fun K "ways_from_beginnings" "ways_from_beginnings" ab_ f fd)(T:Txt mg)(DW:Def P w K mg base 1 "weighted_sum" ["figures","weights"] ch_):FnOk P w K mg base CX0 2 f fd ["rows","weights","tails"] ci_:=by
 refine F.ok ds_ (fun vs H Q E h=>?_) (fun cdv A outer s H vs Q E hr h=>?_)
 ·obtain⟨b,rl,c,tl,rs,ts,ws,q,j,rfl,_⟩:=h;rfl
 ·obtain⟨b,rl,c,tl,rs,ts,ws,q,j,rfl,hrl,hc,htl,hts,TC,hb2,hb,hw,hl6,hj,RD,hr0,k⟩:=h
  have nd:=ds_.nd
  have hu:=fE_ hr
  refine⟨_,b_ (i_ (i:=3) nd rfl (Or.inl rfl) cD_)
   (b_ (C_ PassesOwn.never rfl (J_ (pv 0)) (j_ (i:=4) nd rfl (Or.inl rfl))
    (b_ (i_ (i:=5) nd rfl (Or.inl rfl) (p_ DW hr.mo (by rfl) (a_ (pv 4) (a_ (pv 1) d_))))
    (b_ (i_ (i:=6) nd rfl (Or.inl rfl) (ixl (pv 2) (lenS T.len (by rfl) (pv 4))))
    (b_ (C_ PassesOwn.never rfl (em_ (pv 6)) (j_ (i:=7) nd rfl (Or.inl rfl))
     (g_ (ei_ hu (pv 3) (m_ r_ (pv 5) (pv 7)) (m_ r_ (cE_ hu (pv 3) (m_ r_ (pv 5) (pv 7)) e_ ⟨rfl,rfl,rfl,rfl⟩) (bL_ hu (pv 6) (pv 7) (fun _ _=>rfl))) rfl)))
    (eh_ w_)))))
   (g_ (q_ (pv 3)))),?_⟩
  intro p hp
  have s0:Same H (upd H p (.dK [])):=f_ hp
  have u0:(upd H p (.dK [])) p=some (.dK (intsD [])):=c_
  generalize upd H p (.dK [])=H0 at s0 u0⊢
  have b0:0<b:=by lia
  obtain⟨r2,hr2⟩:∃r,r=ws.drop j:=⟨_,rfl⟩
  have el2:r2.length=ws.length-j:=by rw[hr2,List.length_drop]
  have ews:ws.take j++r2=ws:=by rw[hr2];exact List.take_append_drop j ws
  have hjp:q+(rs.length-1)<b ^ j:=by
   obtain⟨a,ha⟩:∃a,rs[rs.length-1]?=some a:=⟨_,List.getElem?_eq_getElem (by lia)⟩
   exact(RD _ a ha).2
  have hbig:rs.length*b ^ (ws.length-j)<=16777216:=by
   have h1:rs.length*b ^ (ws.length-j)<=b ^ j*b ^ (ws.length-j):=Nat.mul_le_mul_right _ (by lia)
   rw[<-Nat.pow_add,show j+(ws.length-j)=ws.length by lia] at h1
   have h2:b ^ ws.length<=16 ^ 6:=Nat.le_trans (Nat.pow_le_pow_left hb _) (Nat.pow_le_pow_right (by decide) hl6)
   have h16:(16:Nat) ^ 6=16777216:=by decide
   lia
  have hpos:0<rs.length*b ^ (ws.length-j):=Nat.mul_pos hr0 (Nat.pow_pos b0)
  refine⟨_,rfl,rl,rfl,⟨_,SqL.of (s0 _ _ hrl)⟩,Z_ (K:=K) (a:=rl) (xs:=rs.map V.ref) (fun i σ H2=>∃v4 v5 v6 v7,σ=[some (.ref rl),some (.ref c),some (.ref tl),some (.ref p),v4,v5,v6,v7]/\Same H H2/\∃gl,H2 p=some (.dK (intsD gl))/\Me.Ok gl 810/\∀F:Int->Int,Mg.tg gl F=Mg.ns (fun n=>F (Mg.ws1 b (q*b ^ (ws.length-j)+n) ws)) (i*b ^ (ws.length-j)))
   ⟨none,none,none,none,rfl,s0,[],u0,Me.Ok.nil,fun F=>by rw[Nat.zero_mul];rfl⟩ (fun i σ H2 _ h=>by obtain⟨_,_,_,_,_,z,_⟩:=h;exact SqL.of (z _ _ hrl)) ?_ ?_⟩
  ·rintro i x σ H2 hx ⟨v4,v5,v6,v7,rfl,s2,g0,p2,ok2,eq2⟩
   obtain⟨ra,hra,rfl⟩:=dy_ hx
   obtain⟨hrow,hlt⟩:=RD i ra hra
   refine⟨_,rfl,_,rfl,ra,c,_,ws,rfl,s2 _ _ hrow,s2 _ _ hc,hw,by rw[Ma.M_];exact hj,hl6,fun H3 s3=>?_⟩
   rw[oq_ hj]
   have S3:=s2.trans s3
   have er:(((natV (Ma.dws b (q+i) j j)).length:Nat):Int)=(j:Int):=by rw[natV,List.length_map,Ma.M_]
   obtain⟨t,e1⟩:∃t,ts[j]?=some t:=⟨_,List.getElem?_eq_getElem (by lia)⟩
   obtain⟨g,e2,perm⟩:=TC j t e1
   have ett:atI (ts.map V.ref) (j:Int)=some (.ref t):=V_ (by rw[List.getElem?_map,e1];rfl)
   refine⟨_,rfl,_,rfl,ra,_,rfl,.inl (SqL.of (S3 _ _ hrow)),?_⟩
   refine⟨tl,_,(((natV (Ma.dws b (q+i) j j)).length:Nat):Int),_,rfl,rfl,SqL.of (S3 _ _ htl),by rw[er];exact ett,?_⟩
   have p3:=s3 _ _ p2
   have t3:=S3 _ _ e2
   have ntp:t≠p:=k_ e2 hp
   rw[<-hr2] at perm
   have okW:=Me.hh_ (b:=b) (ws:=r2) (fun x hx=>hw x (by rw[hr2] at hx;exact List.mem_of_mem_drop hx)) hb
   have ndg:(Me.keys g).Nodup:=((perm.map _).nodup_iff).mpr okW.nd
   have bdg:∀x∈Me.keys g,-(135*(r2.length:Int))<=x/\x<=135*(r2.length:Int):=fun x hx=>okW.bd x ((perm.map Prod.fst).mem_iff.mp hx)
   generalize ebg:Mg.ws1 b (q+i) (ws.take j)=bg
   have bgb:=mp_ (b:=b) (q:=q+i) (r:=ws.take j) b0 hb fun x hx=>hw x (List.mem_of_mem_take hx)
   have blen:(ws.take j).length=j:=by rw[List.length_take];lia
   rw[blen,ebg] at bgb
   refine⟨_,rfl,t,intsD g,rfl,t3,fun o=>eF_ (fun m σ H4=>∃v7,σ=[some (.ref rl),some (.ref c),some (.ref tl),some (.ref p),some (.ref ra),some (.int bg),some (.ref t),v7]/\H4 t=some (.frz o (.dK (intsD g)))/\Kp [t] H H4/\∃g4,H4 p=some (.dK (intsD g4))/\Me.Ok g4 810/\∀F:Int->Int,Mg.tg g4 F=Mg.tg g0 F+Mg.tg (g.take m) fun x=>F (bg+x))
    ⟨v7,rfl,c_,aQ_ (Kp.of S3) (.inl (by simp)),g0,?_,ok2,fun F=>by simp[Mg.tg]⟩ (fun m σ H4 _ h=>by obtain⟨_,_,z,_⟩:=h;exact z) ?_ ?_⟩
   ·rw[l_ ntp.symm];exact p3
   ·rintro m kk v σ H4 hk ⟨v7,rfl,ft,kp4,g4,p4,ok4,eq4⟩
    obtain⟨pr,hpr,rfl,rfl⟩:=eE_ hk
    have pm:=List.mem_of_getElem? hpr
    have pb:=bdg pr.1 (List.mem_map.mpr ⟨pr,pm,rfl⟩)
    have dg:DGet H4 t (.int pr.1) (some (.int pr.2)):=by
     have z:=U_ (k:=pr.1) (.inr ⟨o,ft⟩)
     rw[Me.am_ ndg pm] at z
     exact z
    have hlen:=Me.Ok.len (m:=810) ok4
    refine⟨_,rfl,p,rfl,.inl ⟨_,.inl p4⟩,_,rfl,_,rfl,_,_,rfl,rfl,_,U_ (.inl p4),_,rfl,_,rfl,t,.int pr.2,rfl,dg,_,_,cF_ _,rfl,_,rfl,_,rfl,_,rfl,_,_,rfl,rfl,p,_,rfl,dh_ p4 (by lia),?_⟩
    refine⟨_,rfl,?_,?_,Me.addTo g4 (bg+pr.1) pr.2,c_,?_,fun F=>?_⟩
    ·rw[l_ ntp];exact ft
    ·exact aQ_ kp4 (.inr hp)
    ·exact ok4.put (by lia)
    ·rw[Mg.jj_ ok4.nd,eq4 F,Mx.tg_take hpr]
     exact Int.add_assoc _ _ _
   ·rintro σ H4 ⟨v7,rfl,ft,kp4,g4,p4,ok4,eq4⟩
    have el:(intsD g).length=g.length:=by rw[intsD,List.length_map]
    rw[el,List.take_length] at eq4
    refine⟨t,o,intsD g,ft,(fun o' u z=>by
     have z':H t=some (.frz o' u):=z
     rw[e2] at z';cases z'),_,_,_,_,rfl,fun x ob e=>?_,g4,?_,ok4,fun F=>?_⟩
    ·by_cases hx:x=t
     ·rw[hx,c_,<-e2,<-hx];exact e
     ·rw[l_ hx];exact kp4 x ob e (by simpa using hx)
    ·rw[l_ ntp.symm];exact p4
    ·rw[eq4,eq2,Nat.add_mul,Nat.one_mul,Mg.fv_,Mx.tg_perm perm,<-Mg.dJ_ b (fun x=>F (bg+x)) r2,<-el2]
     congr 1
     apply Mg.L_
     intro d hd
     have e5:q*b ^ r2.length+(i*b ^ r2.length+d)=(q+i)*b ^ r2.length+d:=by rw[Nat.add_mul];lia
     have e6:=Mu.eM_ (b:=b) (d:=q+i) (i:=d) (r1:=ws.take j) (r2:=r2) b0 hd
     rw[ews,ebg] at e6
     show F _=F _
     rw[e5,e6]
  ·rintro σ H2 ⟨v4,v5,v6,v7,rfl,s2,gl,p2,ok2,eq2⟩
   rw[List.length_map] at eq2
   exact⟨_,rfl,k p gl H2 hp s2 p2 (Mx.RepC.of ok2 hpos hbig eq2)⟩
end
end Hv
namespace Mx
open Me Mg Mu
def nrI(b d:Nat)(ps:List Nat)(ws:List Int)(m:Nat):Int:=if sprd (sumsN b m ps ws)<=d then 1 else 0
def nrN(b d:Nat)(ps:List Nat)(ws:List Int)(n:Nat):Int:=ns (nrI b d ps ws) n
def nrS(b d:Nat)(ps:List Nat)(ws:List Int)(x:Stre):Int:=ns (fun i=>nrI b d ps ws (sLo b ps.sum x+i)) (sN b ps.sum x)
theorem near_stretch{b d:Nat}(hb:0<b){x:Stre}{ps:List Nat}{ws:List Int}(hp:0<ps.length)(SO:StrOk b ps.sum x)(hw:ws.length=ps.sum){gs:List (List (Int×Int))}(hl:gs.length=ps.length)
  (hg:∀i l row g,ps[i]?=some l->(Ma.cuts ps ws)[i]?=some row->gs[i]?=some g->RepC g (plo b x.1 x.2.1 (ps.take i).sum l) (pcn b x.2.1 x.2.2 (ps.take i).sum l) (fun n=>ws1 b n row)) (ok:∀g∈gs,DOk g):nearG gs d=nrS b d ps ws x:=by
 rw[lP_ (by lia) ok,ii_ hb SO hw hl hg]
 rfl
theorem nrS_sum{b d:Nat}{ps:List Nat}{ws:List Int}{L:List Stre}{n:Nat}(h:∀g,strS b ps.sum L g=ns g n):(L.map (nrS b d ps ws)).sum=nrN b d ps ws n:=by
 unfold nrN
 rw[<-h]
 rfl
end Mx
namespace Hv
open PySem L2
def pA_(H:Hp)(b:Nat)(ps:List Nat)(ws:List Int)(x:Mu.Stre)(ds:List Addr)(gs:List (List (Int×Int))):Prop:=WaysG H ds gs/\∀(i l:Nat) (row:List Int) (g:List (Int×Int)),ps[i]?=some l->(Ma.cuts ps ws)[i]?=some row->gs[i]?=some g->
 Mx.RepC g (Mu.plo b x.1 x.2.1 (ps.take i).sum l) (Mu.pcn b x.2.1 x.2.2 (ps.take i).sum l) (fun n=>Mg.ws1 b n row)
def bk_:Sp:=fun vs H Q _=>∃f A c b ps ws,∃(tl hd:Addr) (tds:List Addr) (x:Mu.Stre) (d:Nat),vs=[.ref f,.ref tl,.int d,.ref hd,.int (x.2.2:Int)]/\FrAt H f A c b ps ws/\H tl=some (.lst (tds.map V.ref))/\tds.length=ps.length/\bO_ H b ps ws tds/\H hd=some (.lst (natV (Ma.dws b x.1 x.2.1 x.2.1)))/\Mu.StrOk b ps.sum x/\
 ∀H':Hp,Same H H'->Q (.int (Mx.nrS b d ps ws x)) H'
section
variable{P:Program}{w:World}{K:PySem.W.Frag}{mg:Str->Option Value}{base:Heap}
theorem cp_:FnScope ["frame","tails_by_part","d","head","end","beginnings","weights_by_part","ways_by_part","rows","weights","tails"] ["frame","tails_by_part","d","head","end"] (h_ bK_):=⟨rfl,rfl,rfl,by decide +kernel,rfl,by decide +kernel,by decide +kernel⟩
theorem eu_{f:Addr}{fd:FuncData}(F:Fun K "count_begun" "count_begun" bK_ f fd)(T:Txt mg)(DP:Def P w K mg base 1 "part_beginnings" ["frame","head","end"] bH_)(DC:Def P w K mg base 1 "cut_by_parts" ["frame","row"] spCut)
  (DW:Def P w K mg base 2 "ways_from_beginnings" ["rows","weights","tails"] ci_) (DJ:Def P w K mg base 2 "count_spread_within" ["ways_by_part","width"] dS_):FnOk P w K mg base CX0 3 f fd ["frame","tails_by_part","d","head","end"] bk_:=by
 refine F.ok cp_ (fun vs H Q E h=>?_) (fun cdv A outer s H vs Q E hr h=>?_)
 ·obtain⟨g,A,c,b,ps,ws,tl,hd,tds,x,d,rfl,_⟩:=h;rfl
 ·obtain⟨g,A',c,b,ps,ws,tl,hd,tds,x,d,rfl,G,htl,htd,TA,hhd,SO,k⟩:=h
  have nd:=cp_.nd
  have ok:=G.ok
  have l4:=ok.l4
  have l2:=ok.l2
  have hsum:=ok.sum
  have hpl:=SO.pl
  refine⟨_,b_ (i_ (i:=5) nd rfl (Or.inl rfl) (p_ DP hr.mo (by rfl) (a_ (pv 0) (a_ (pv 3) (a_ (pv 4) d_)))))
   (b_ (i_ (i:=6) nd rfl (Or.inl rfl) (p_ DC hr.mo (by rfl) (a_ (pv 0) (a_ (ixt (pv 0) e_) d_))))
   (b_ (i_ (i:=7) nd rfl (Or.inl rfl) (s_ d_))
   (b_ (C_ PassesOwn.never rfl (nE_ (by rfl) T.zip (pv 5) (pv 6) (pv 1)) (fl_ rfl (n_ (j_ (i:=8) nd rfl (Or.inl rfl)) (n_ (j_ (i:=9) nd rfl (Or.inl rfl)) (n_ (j_ (i:=10) nd rfl (Or.inl rfl)) P_))))
    (g_ (I_ (cX_ PySem.F.plainAttrs_list PySem.F.slot_list_append PySem.F.type_list_append T_ (pv 7) (a_ (p_ DW hr (by rfl) (a_ (pv 8) (a_ (pv 9) (a_ (pv 10) d_)))) d_)))))
   (g_ (q_ (p_ DJ hr (by rfl) (a_ (pv 7) (a_ (pv 2) d_)))))))),?_⟩
  refine⟨_,rfl,_,rfl,_,rfl,g,A',c,b,ps,ws,hd,x.1,x.2.1,x.2.2,rfl,G,hhd,SO.eb,by lia,fun bp bs H1 hbp s1 hb1 hbl BA=>?_⟩
  have G1:=G.keep s1
  refine⟨_,rfl,_,rfl,_,_,_,_,rfl,rfl,SqT.of G1.tp,rfl,g,A',c,b,ps,ws,c,ws,rfl,G1,G1.hw,fun wp qs H2 s2 hw2 rows=>?_⟩
  have G2:=G1.keep s2
  have qlen:qs.length=ps.length:=by rw[Paired.length rows,Ma.ah_]
  refine⟨sz (by decide),fun sl hsl=>?_⟩
  have s3:=f_ (o:=.lst []) hsl
  have hslH:H sl=none:=s1.free (s2.free hsl)
  have u3:(upd H2 sl (.lst [])) sl=_:=c_
  have S3:Same H (upd H2 sl (.lst [])):=(s1.trans s2).trans s3
  have S13:Same H1 (upd H2 sl (.lst [])):=s2.trans s3
  generalize upd H2 sl (.lst [])=H3 at s3 u3 S3 S13⊢
  refine⟨_,rfl,_,rfl,_,rfl,bp,wp,tl,rfl,rfl,rfl,⟨_,SqL.of (S13 _ _ hb1)⟩,⟨_,SqL.of (s3 _ _ hw2)⟩,⟨_,SqL.of (S3 _ _ htl)⟩,md_ (K:=K) (a:=bp) (b:=wp) (c:=tl) (xs:=bs.map V.ref) (ys:=qs.map V.ref) (zs:=tds.map V.ref)
   (fun i σ H4=>∃(ds:List Addr) (gs:List (List (Int×Int))) (v7 v8 v9:Option V),σ=[some (.ref g),some (.ref tl),some (.int d),some (.ref hd),some (.int (x.2.2:Int)),some (.ref bp),some (.ref wp),some (.ref sl),v7,v8,v9]/\(∀y ob,H3 y=some ob->y≠sl->H4 y=some ob)/\H4 sl=some (.lst (ds.map V.ref))/\ds.length=i/\pA_ H4 b ps ws x ds gs) (by simp[hbl,qlen]) (by simp[hbl,htd])
   ⟨[],[],none,none,none,rfl,fun y ob e _=>e,u3,rfl,.nil,fun i l row d _ _ h=>by simp at h⟩ ?_ ?_ ?_⟩
  ·rintro i σ H4 _ ⟨ds,gs,v7,v8,v9,rfl,kp,_⟩
   exact⟨SqL.of (kp _ _ (S13 _ _ hb1) (k_ hb1 (s2.free hsl))),SqL.of (kp _ _ (s3 _ _ hw2) (k_ hw2 hsl)),SqL.of (kp _ _ (S3 _ _ htl) (k_ htl hslH))⟩
  ·rintro i xb xw xt σ H4 t hb hw ht ⟨ds,gs,v7,v8,v9,rfl,kp,hsl4,hdl,PR⟩ htn
   obtain⟨br,hbr,rfl⟩:=dy_ hb
   obtain⟨wq,hwq,rfl⟩:=dy_ hw
   obtain⟨td,htd',rfl⟩:=dy_ ht
   have hi:i<ps.length:=by have:=(List.getElem?_eq_some_iff.mp hbr).1;lia
   obtain⟨l,hl⟩:∃l,ps[i]?=some l:=⟨_,List.getElem?_eq_getElem hi⟩
   have hrow:=Ma.aF_ ps ws i l hl
   generalize er:(ws.drop (ps.take i).sum).take l=row at hrow
   have hrl:row.length=l:=by
    have h1:=Me.fM_ ps ws ok.wl
    have h2:((Ma.cuts ps ws).map List.length)[i]?=some row.length:=by rw[List.getElem?_map,hrow];rfl
    rw[h1,hl] at h2
    exact(Option.some.inj h2).symm
   have hrm:row∈Ma.cuts ps ws:=List.mem_of_getElem? hrow
   have u5:(upd H4 t (.tup [.ref br,.ref wq,.ref td])) t=_:=c_
   have t5:=f_ (o:=.tup [.ref br,.ref wq,.ref td]) htn
   refine⟨t,_,rfl,SqT.of c_,rfl,_,_,rfl,_,_,rfl,_,_,rfl,rfl,?_⟩
   have kp5:∀y ob,H3 y=some ob->y≠sl->(upd H4 t (.tup [.ref br,.ref wq,.ref td])) y=some ob:=fun y ob e n=>t5 _ _ (kp y ob e n)
   have sl5:=t5 _ _ hsl4
   have PR5:=PR.1.keep t5
   generalize upd H4 t (.tup [.ref br,.ref wq,.ref td])=H5 at u5 t5 kp5 sl5 PR5⊢
   have U2:Same H2 H5:=fun y ob e=>kp5 _ _ (s3 _ _ e) (k_ e hsl)
   have U1:Same H1 H5:=fun y ob e=>kp5 _ _ (S13 _ _ e) (k_ e (s2.free hsl))
   have U0:Same H H5:=fun y ob e=>kp5 _ _ (S3 _ _ e) (k_ e hslH)
   have G5:=G.keep U0
   obtain⟨_,rs,hrs,hrsl,_,RD⟩:=BA i l br hl hbr
   have hwq2:H2 wq=some (.lst (row.map V.int)):=by
    obtain⟨row',hr',e'⟩:=bZ_ rows hwq
    rw[hrow] at hr'
    cases hr'
    exact e'
   obtain⟨ts,ht1,ht2,ht3⟩:=TA i row td hrow htd'
   have hrs0:0<rs.length:=by
    rw[hrsl]
    have:=SO.e1
    unfold Mu.pn
    split
    ·decide
    ·split <;> lia
   refine⟨_,rfl,.inl ⟨rfl,_,SqL.of sl5⟩,_,rfl,_,rfl,_,rfl,b,br,wq,td,rs,ts,row,Mu.pq b x.1 x.2.1 (ps.take i).sum l,Mu.pj x.2.1 (ps.take i).sum l,rfl,U1 _ _ hrs,U2 _ _ hwq2,U0 _ _ ht1,ht2,ht3.keep U0,ok.b2,ok.b16,fun y hy=>ok.wr y (Ma.bA_ hrm y hy),Ma.aS_ (fun p hp=>(ok.pr p hp).2) hrm,by rw[hrl];exact Mu.pD_,RD.keep U1,hrs0,fun dp g6 H6 hdp s6 h6 R6=>?_⟩
   rw[hrl,hrsl] at R6
   have ndp:dp≠sl:=fun z=>by rw[z,sl5] at hdp;cases hdp
   have gl:gs.length=i:=by rw[<-Paired.length PR5];exact hdl
   refine⟨sl,_,_,rfl,rfl,s6 _ _ sl5,szl (by rw[List.length_map];lia),ds++[dp],gs++[g6],some (.ref br),some (.ref wq),some (.ref td),rfl,fun y ob e n=>?_,by rw[c_,List.map_append];rfl,by simp[hdl],?_,fun m l' row' d' a1 a2 a3=>?_⟩
   ·rw[l_ n]
    exact s6 _ _ (kp5 y ob e n)
   ·refine Paired.snoc (L2.Paired.mapP PR5 fun q g e=>?_) (by rw[l_ ndp];exact h6)
    rw[l_ (fun z=>by rw[z,sl5] at e;cases e)]
    exact s6 _ _ e
   ·by_cases hm:m<gs.length
    ·rw[List.getElem?_append_left hm] at a3
     exact PR.2 m l' row' d' a1 a2 a3
    ·have hm':m=i:=by
      have:=(List.getElem?_eq_some_iff.mp a3).1
      simp at this
      lia
     subst hm'
     rw[List.getElem?_append_right (by lia),gl,Nat.sub_self] at a3
     have e1:g6=d':=by simpa using a3
     subst e1
     rw[hl] at a1
     cases a1
     rw[hrow] at a2
     cases a2
     exact R6
  ·rintro σ H4 ⟨ds,gs,v7,v8,v9,rfl,kp,hsl4,hdl,PR⟩
   have U0:Same H H4:=fun y ob e=>kp _ _ (S3 _ _ e) (k_ e hslH)
   have hdl':ds.length=ps.length:=by rw[hdl,List.length_map,hbl]
   have gl:gs.length=ps.length:=by rw[<-Paired.length PR.1];exact hdl'
   have dok:∀g∈gs,Me.DOk g:=fun g hg=>by
    obtain⟨i,hi⟩:=List.getElem?_of_mem hg
    have hi':i<ps.length:=by have:=(List.getElem?_eq_some_iff.mp hi).1;lia
    exact(PR.2 i ps[i] _ g (List.getElem?_eq_getElem hi') (Ma.aF_ ps ws i _ (List.getElem?_eq_getElem hi')) hi).ok
   refine⟨_,rfl,_,rfl,sl,ds,gs,d,rfl,hsl4,PR.1,by lia,by lia,dok,fun H' s'=>?_⟩
   rw[Mx.near_stretch (by have:=ok.b2;lia) (by lia) SO ok.wl gl PR.2 dok]
   exact k H' (U0.trans s')
end
def bt_:Sp:=fun vs H Q _=>∃d:Nat,vs=[.int d]/\Q .non H
def bj_:Sp:=fun vs H Q _=>∃f A c b ps ws,∃(tl:Addr) (tds:List Addr) (d n:Nat),vs=[.ref f,.ref tl,.int d,.int n]/\FrAt H f A c b ps ws/\H tl=some (.lst (tds.map V.ref))/\tds.length=ps.length/\bO_ H b ps ws tds/\n<=b ^ ps.sum/\
 ∀H':Hp,Same H H'->Q (.int (Mx.nrN b d ps ws n)) H'
section
variable{P:Program}{w:World}{K:PySem.W.Frag}{mg:Str->Option Value}{base:Heap}
theorem il_:FnScope ["thing"] ["thing"] (h_ cT_):=⟨rfl,rfl,rfl,by decide +kernel,rfl,by decide +kernel,by decide +kernel⟩
theorem gG_{f:Addr}{fd:FuncData}(F:Fun K "need_miss" "need_miss" cT_ f fd)(D1:Def P w K mg base 1 "is_whole" ["thing"] dP_):FnOk P w K mg base CX0 2 f fd ["thing"] bt_:=by
 refine F.ok il_ (fun vs H Q E h=>?_) (fun cdv A outer s H vs Q E hr h=>?_)
 ·obtain⟨d,rfl,_⟩:=h;rfl
 ·obtain⟨d,rfl,k⟩:=h
  refine⟨_,g_ (W_ (PW.pt (do_ (aK_ (aB_ (p_ D1 hr (by rfl) (a_ (pv 0) d_)))) (bW_ (z_ gA_ (pv 0) e_ (nomark _))))) aM_ w_),?_⟩
  refine⟨_,rfl,.int d,rfl,.int _,_,rfl,iteF ⟨_,rfl,_,_,rfl,rfl,_,rfl,?_⟩⟩
  have e:decide ((d:Int)<0)=false:=decide_eq_false (by lia)
  rw[e]
  exact iteF k
theorem co_:FnScope ["frame","tails_by_part","d","n"] ["frame","tails_by_part","d","n"] (h_ as_):=⟨rfl,rfl,rfl,by decide +kernel,rfl,by decide +kernel,by decide +kernel⟩
theorem et_{f:Addr}{fd:FuncData}(F:Fun K "count_below" "count_below" as_ f fd)(T:Txt mg)(DS:Def P w K mg base 9 "stretches_below" ["frame","n"] bG_)(DW:Def P w K mg base 3 "count_begun" ["frame","tails_by_part","d","head","end"] bk_):FnOk P w K mg base CX0 10 f fd ["frame","tails_by_part","d","n"] bj_:=by
 refine F.ok co_ (fun vs H Q E h=>?_) (fun cdv A outer s H vs Q E hr h=>?_)
 ·obtain⟨g,A,c,b,ps,ws,tl,tds,d,n,rfl,_⟩:=h;rfl
 ·obtain⟨g,A',c,b,ps,ws,tl,tds,d,n,rfl,G,htl,tdl,TA,hn,k⟩:=h
  have nd:=co_.nd
  have ok:=G.ok
  have nd2:List.Nodup (["head","end","frame","tails_by_part","d"]:List Str):=by decide +kernel
  refine⟨_,g_ (q_ (o_ (bo_ rfl) (by rfl) T.sum boot_sum (a_ (gz_ (N:=["head","end","frame","tails_by_part","d"]) (k:=2) (fr:=[0,1,2]) (cmpS (sc:=h_ as_) (NX:=["frame","tails_by_part","d","n"]) (k:=2) (fr:=[0,1,2]) rfl rfl (by decide +kernel))
    (cmpF (sc:=h_ as_) (NX:=["frame","tails_by_part","d","n"]) rfl (by decide +kernel)) rfl (J_ (p_ DS hr (by rfl) (a_ (pv 0) (a_ (pv 3) d_))))
    (fun cl C s H fp=>en_ K rfl rfl (n_ (j_ (i:=0) nd2 rfl (Or.inl rfl)) (n_ (j_ (i:=1) nd2 rfl (Or.inl rfl)) P_))) hV_ (fun cl C s H fp=>av_)
    (fun cl C s H fp=>p_ DW hr.mo (by rfl) (a_ (pv 2) (a_ (pv 3) (a_ (pv 4) (a_ (pv 0) (a_ (pv 1) d_))))))) d_))),?_⟩
  refine⟨_,rfl,_,rfl,g,A',c,b,ps,ws,n,rfl,G,hn,fun p ts L H6 hp s6 hp6 PR hL SO hg=>⟨p,rfl,⟨_,SqL.of hp6⟩,aj_ (K:=K) (a:=p) (xs:=ts.map V.ref) (fun i ys H7=>ys=((L.take i).map (Mx.nrS b d ps ws)).map V.int/\Same H6 H7)
    ⟨by simp,Same.refl _⟩ (fun i ys H7 _ q=>SqL.of (q.2 _ _ hp6)) ?_ ?_⟩⟩
  ·rintro i x ys H7 hx ⟨rfl,s7⟩
   obtain⟨t,ht,rfl⟩:=dy_ hx
   obtain⟨x',hx',hh,h1,h2⟩:=bZ_ PR ht
   have S7:=s6.trans s7
   refine⟨szl (by rw[List.length_map,List.length_map,List.length_take];lia),t,_,rfl,SqT.of (s7 _ _ h1),rfl,_,_,rfl,_,_,rfl,rfl,_,rfl,_,rfl,_,rfl,_,rfl,_,rfl,g,A',c,b,ps,ws,tl,hh,tds,x',d,rfl,G.keep S7,S7 _ _ htl,tdl,TA.keep S7,s7 _ _ h2,SO x' (List.mem_of_getElem? hx'),fun H8 s8=>?_⟩
   refine⟨?_,s7.trans s8⟩
   rw[List.take_add_one,hx']
   simp
  ·rintro ys H7 ⟨rfl,s7⟩ wl hwl
   have el:(ts.map V.ref).length=L.length:=by rw[List.length_map,Paired.length PR]
   rw[el,List.take_length]
   refine⟨wl,_,rfl,SqL.of c_,?_⟩
   rw[Mx.nrS_sum hg]
   exact k _ (s6.trans (s7.trans (f_ hwl)))
end
end Hv
namespace Mx
open Me Mg Mu
theorem nrI_01(b d:Nat)(ps:List Nat)(ws:List Int)(m:Nat):nrI b d ps ws m=0\/nrI b d ps ws m=1:=by
 unfold nrI
 split
 ·exact .inr rfl
 ·exact .inl rfl
theorem nrN_succ(b d:Nat)(ps:List Nat)(ws:List Int)(n:Nat):nrN b d ps ws (n+1)=nrN b d ps ws n+nrI b d ps ws n:=rfl
theorem nrN_nn(b d:Nat)(ps:List Nat)(ws:List Int)(n:Nat):0<=nrN b d ps ws n:=nX_ fun i _=>by
 rcases nrI_01 b d ps ws i with h | h <;> lia
theorem hJ_(b d:Nat)(ps:List Nat)(ws:List Int)(n:Nat):∀m,nrN b d ps ws n<=nrN b d ps ws (n+m)
 | 0=>Int.le_refl _
 | m+1=>by
  have:=hJ_ b d ps ws n m
  rw[<-Nat.add_assoc,nrN_succ]
  rcases nrI_01 b d ps ws (n+m) with h | h <;> lia
end Mx
namespace Hv
open PySem L2
section
variable{P:Program}{w:World}{K:PySem.W.Frag}{mg:Str->Option Value}{base:Heap}
end
def spLaw(K:PySem.W.Frag):Sp:=fun vs H Q _=>∃(a:Addr) (ns:List Int),vs=[.ref a]/\SqL K H a (ns.map V.int)/\ns.length<=63/\∀H',Q (.bl true) H'
def frD(b:Nat)(ps:List Nat)(ws:List Int):PyData:=.tuple [.int b,.list ((ps.map fun(p:Nat)=>(p:Int)).map PyData.int),.list (ws.map PyData.int)]
theorem kD_(b:Nat)(ps:List Nat)(ws:List Int):(frD b ps ws).canLay0=true:=by
 simp only[frD,PyData.canLay0,PyData.canLayAll0,lays,Bool.and_self]
theorem fF_(b:Nat)(ps:List Nat)(ws:List Int):(frD b ps ws).depth<=60:=by
 simp only[frD,PyData.depth,PyData.depthAll,depths]
 decide
theorem FrAt.dat{P:Program}{w:World}{H:Hp}{f a c:Addr}{b:Nat}{ps:List Nat}{ws:List Int}(G:FrAt H f a c b ps ws):DatV P w H (.ref f) (frD b ps ws) :=
 datT G.tp (.cons (datI _) (.cons (datL G.hp (by rw[gM_];exact datIs _)) (.cons (datL G.hw (datIs _)) .nil)))
section
variable{P:Program}{w:World}{K:PySem.W.Frag}{mg:Str->Option Value}{base:Heap}
end
end Hv
namespace Mx
open Me Mg Mu
theorem nrI_le{b d:Nat}{ps:List Nat}{ws:List Int}{n:Nat}:nrI b d ps ws n=1↔Hv.spread (Hv.ao_ b n ps ws)<=d:=by
 have e:Hv.spread (Hv.ao_ b n ps ws)=sprd (sumsN b n ps ws):=rfl
 rw[e]
 unfold nrI
 constructor
 ·intro h
  by_cases z:sprd (sumsN b n ps ws)<=d
  ·exact z
  ·rw[if_neg z] at h;cases h
 ·intro h
  rw[if_pos h]
end Mx
namespace Hv
open PySem L2
def aI_:Sp:=fun vs H Q _=>∃f A c b ps ws,∃d n:Nat,vs=[.ref f,.int d,.int n]/\FrAt H f A c b ps ws/\n<b ^ ps.sum/\Mx.nrI b d ps ws n=1/\∀H':Hp,Same H H'->Q .non H'
def ag_:Sp:=fun vs H Q _=>∃f A c b ps ws,∃d n:Nat,vs=[.ref f,.int d,.int n]/\FrAt H f A c b ps ws/\n<b ^ ps.sum/\Mx.nrI b d ps ws n=1/\∀H':Hp,Same H H'->Q (.int (Mx.nrN b d ps ws n)) H'
def bh_:Sp:=fun vs H Q _=>∃f A c b ps ws,∃n:Nat,vs=[.ref f,.int n]/\FrAt H f A c b ps ws/\n<b ^ ps.sum/\Mx.nrI b 0 ps ws n=1/\∀H':Hp,Same H H'->Q (.int (Mx.nrN b 0 ps ws n)) H'
section
variable{P:Program}{w:World}{K:PySem.W.Frag}{mg:Str->Option Value}{base:Heap}
theorem du_:FnScope ["frame","d","thing"] ["frame","d","thing"] (h_ bV_):=⟨rfl,rfl,rfl,by decide +kernel,rfl,by decide +kernel,by decide +kernel⟩
theorem da_{f:Addr}{fd:FuncData}(F:Fun K "need_near" "need_near" bV_ f fd)(D2:Def P w K mg base 2 "is_between" ["thing","least","greatest"] cO_)(D6:Def P w K mg base 6 "how_many" ["frame"] N_)(DM:Def P w K mg base 10 "misses_by" ["frame","n"] aY_):FnOk P w K mg base CX0 11 f fd ["frame","d","thing"] aI_:=by
 refine F.ok du_ (fun vs H Q E h=>?_) (fun cdv A outer s H vs Q E hr h=>?_)
 ·obtain⟨g,a,c,b,ps,ws,d,n,rfl,_⟩:=h;rfl
 ·obtain⟨g,a,c,b,ps,ws,d,n,rfl,G,hn,hi,k⟩:=h
  refine⟨_,g_ (W_ (PW.pt (do_ (aK_ (aB_ (p_ D2 hr.mo (by rfl) (a_ (pv 2) (a_ e_ (a_ (m_ R_ (p_ D6 hr.mo (by rfl) (a_ (pv 0) d_)) e_) d_))))))
   (bW_ (z_ ir_ (p_ DM hr (by rfl) (a_ (pv 0) (a_ (pv 2) d_))) (pv 1) (nomark _))))) aM_ w_),?_⟩
  refine⟨_,rfl,_,rfl,g,a,c,b,ps,ws,rfl,G,fun H1 s1=>⟨_,_,rfl,rfl,.int n,0,_,rfl,.int _,_,rfl,?_⟩⟩
  have e:betw (.int (n:Int)) 0 (((b ^ ps.sum:Nat):Int)-1)=true:=by simp only[betw,Bool.and_eq_true,decide_eq_true_eq];lia
  rw[e]
  refine iteF ⟨_,rfl,_,rfl,g,a,c,b,ps,ws,n,rfl,G.keep s1,hn,fun H2 s2=>⟨_,rfl,_,_,rfl,rfl,_,rfl,?_⟩⟩
  have e2:decide ((d:Int)<spread (ao_ b n ps ws))=false:=decide_eq_false (by have:=Mx.nrI_le.mp hi;lia)
  rw[e2]
  exact iteF (k H2 (s1.trans s2))
theorem cR_:FnScope ["frame","d","n"] ["frame","d","n"] (h_ by_):=⟨rfl,rfl,rfl,by decide +kernel,rfl,by decide +kernel,by decide +kernel⟩
theorem cs_{f:Addr}{fd:FuncData}(F:Fun K "near_place" "near_place" by_ f fd)(D5:Def P w K mg base 5 "need_frame" ["thing"] af_)(DM:Def P w K mg base 2 "need_miss" ["thing"] bt_)(D7:Def P w K mg base 11 "need_near" ["frame","d","thing"] aI_)
  (DT:Def P w K mg base 4 "tails_of_parts" ["frame"] cJ_) (DB:Def P w K mg base 10 "count_below" ["frame","tails_by_part","d","n"] bj_):FnOk P w K mg base CX0 12 f fd ["frame","d","n"] ag_:=by
 refine F.ok cR_ (fun vs H Q E h=>?_) (fun cdv A outer s H vs Q E hr h=>?_)
 ·obtain⟨g,A,c,b,ps,ws,d,n,rfl,_⟩:=h;rfl
 ·obtain⟨g,A',c,b,ps,ws,d,n,rfl,G,hn,hi,k⟩:=h
  refine⟨_,b_ (I_ (p_ D5 hr.mo (by rfl) (a_ (pv 0) d_)))
   (b_ (I_ (p_ DM hr.mo (by rfl) (a_ (pv 1) d_)))
   (b_ (I_ (p_ D7 hr (by rfl) (a_ (pv 0) (a_ (pv 1) (a_ (pv 2) d_)))))
   (g_ (q_ (p_ DB hr.mo (by rfl) (a_ (pv 0) (a_ (p_ DT hr.mo (by rfl) (a_ (pv 0) d_)) (a_ (pv 1) (a_ (pv 2) d_))))))))),?_⟩
  refine⟨_,rfl,g,A',c,b,ps,ws,rfl,G,fun H1 s1=>⟨_,rfl,d,rfl,?_⟩⟩
  refine⟨_,rfl,_,rfl,_,rfl,g,A',c,b,ps,ws,d,n,rfl,G.keep s1,hn,hi,fun H2 s2=>?_⟩
  have S2:=s1.trans s2
  refine⟨_,rfl,_,rfl,g,A',c,b,ps,ws,rfl,G.keep S2,fun p tds H3 hp s3 h3 tdl TA=>?_⟩
  exact⟨_,rfl,_,rfl,g,A',c,b,ps,ws,p,tds,d,n,rfl,(G.keep S2).keep s3,h3,tdl,TA,by lia,fun H' s'=>k H' (S2.trans (s3.trans s'))⟩
theorem fa_:FnScope ["frame","n"] ["frame","n"] (h_ cy_):=⟨rfl,rfl,rfl,by decide +kernel,rfl,by decide +kernel,by decide +kernel⟩
theorem dA_{f:Addr}{fd:FuncData}(F:Fun K "place_of" "place_of" cy_ f fd)(DB:Def P w K mg base 12 "near_place" ["frame","d","n"] ag_):FnOk P w K mg base CX0 13 f fd ["frame","n"] bh_:=by
 refine F.ok fa_ (fun vs H Q E h=>?_) (fun cdv A outer s H vs Q E hr h=>?_)
 ·obtain⟨g,A,c,b,ps,ws,n,rfl,_⟩:=h;rfl
 ·obtain⟨g,A',c,b,ps,ws,n,rfl,G,hn,hi,k⟩:=h
  refine⟨_,g_ (q_ (p_ DB hr (by rfl) (a_ (pv 0) (a_ e_ (a_ (pv 1) d_))))),?_⟩
  exact⟨_,rfl,_,rfl,g,A',c,b,ps,ws,0,n,rfl,G,hn,hi,k⟩
end
end Hv
namespace Mx
open Me Mg Mu
def Mk(e:Nat->Int):Prop:=∀i,e i=0\/e i=1
end Mx
namespace Mx
open Me Mg Mu
end Mx
namespace Ma
theorem mg_(b L:Nat):dws b 0 L L=List.replicate L 0:=by
 apply List.ext_getElem
 ·simp[dws]
 ·intro i h1 h2
  simp[dws]
theorem he_:∀(L:Nat) (ws:List Int),List.zipWith (fun(d:Nat) (x:Int)=>(d:Int)*x) (List.replicate L 0) ws=List.replicate (min L ws.length) 0
 | 0,ws=>by simp
 | L+1,[]=>by simp
 | L+1,x::r=>by
  rw[List.replicate_succ,List.zipWith_cons_cons,he_ L r,List.length_cons,show min (L+1) (r.length+1)=min L r.length+1 by lia,List.replicate_succ]
  simp
theorem im_(ps:List Nat):∀k:Nat,psums ps (List.replicate k 0)=List.replicate ps.length 0:=by
 induction ps with
 | nil=>intro k;rfl
 | cons p ps ih =>
  intro k
  have:=ih (k-p)
  unfold psums at this⊢
  simp only[cuts,List.map_cons,List.take_replicate,List.drop_replicate,List.length_cons,List.replicate_succ]
  rw[this]
  simp
theorem kU_{n:Nat}{x:Int}(h:0<n):maxL (List.replicate n x)=x/\minL (List.replicate n x)=x:=by
 have hm:x∈List.replicate n x:=List.mem_replicate.mpr ⟨by lia,rfl⟩
 exact⟨(cb_ hm fun y hy=>by rw[List.eq_of_mem_replicate hy];exact Int.le_refl _).symm,(ca_ hm fun y hy=>by rw[List.eq_of_mem_replicate hy];exact Int.le_refl _).symm⟩
end Ma
namespace Mx
open Me Mg Mu
variable{b d e:Nat}{ps:List Nat}{ws:List Int}{m n:Nat}
theorem oX_(h:m<=n):nrN b d ps ws m<=nrN b d ps ws n:=by
 have:=hJ_ b d ps ws m (n-m)
 rw[show m+(n-m)=n by lia] at this
 exact this
theorem wts_135{L:Nat}(hb0:0<b)(hb:b<=16)(hw:∀x∈ws,-9<=x/\x<=9):∀y∈Ma.wts b n L ws,-135<=y/\y<=135:=by
 intro y hy
 unfold Ma.wts at hy
 obtain⟨i,hi⟩:=List.getElem?_of_mem hy
 rw[List.getElem?_zipWith] at hi
 cases e1:(Ma.dws b n L L)[i]? with
 | none=>rw[e1] at hi;cases hi
 | some g =>
  cases e2:ws[i]? with
  | none=>rw[e1,e2] at hi;cases hi
  | some x =>
   rw[e1,e2] at hi
   have hg:=Ma.kK_ hb0 (List.mem_of_getElem? e1)
   have hx:=hw x (List.mem_of_getElem? e2)
   have:=cI_ (m:=0) (x:=0) (d:=g) (b:=b) ⟨by decide,by decide⟩ hx hb hg
   have e3:(g:Int)*x=y:=Option.some.inj hi
   lia
theorem sum_135:∀ {l:List Int},(∀y∈l,-135<=y/\y<=135)->-(135*(l.length:Int))<=l.sum/\l.sum<=135*(l.length:Int)
 | [],_=>⟨by decide,by decide⟩
 | x::l,h=>by
  have h1:=h x (by simp)
  have h2:=sum_135 (l:=l) fun y hy=>h y (by simp[hy])
  rw[List.sum_cons,List.length_cons]
  push_cast
  lia
end Mx
namespace Hv
open PySem L2
theorem dM_{b n:Nat}{ps:List Nat}{ws:List Int}(ok:FrOk b ps ws):∀x∈ao_ b n ps ws,-810<=x/\x<=810:=fun x hx=>by
 obtain⟨row,hrow,rfl⟩:=List.mem_map.mp hx
 have h1:=Ma.aS_ (fun p hp=>(ok.pr p hp).2) hrow
 have h2:=Mx.sum_135 (l:=row) fun y hy=>Mx.wts_135 (by have:=ok.b2;lia) ok.b16 ok.wr y (Ma.bA_ hrow y hy)
 lia
theorem jm_{b n:Nat}{ps:List Nat}{ws:List Int}(ok:FrOk b ps ws):0<=spread (ao_ b n ps ws)/\spread (ao_ b n ps ws)<=1620:=by
 have hl:=bS_ (n:=n) ok
 obtain⟨a1,a2⟩:=Ma.x_ _ hl
 obtain⟨b1,b2⟩:=Ma.v_ _ hl
 have c1:=dM_ ok _ a1
 have c2:=dM_ ok _ b1
 have:=a2 _ b1
 unfold spread
 lia
theorem kH_{b:Nat}{ps:List Nat}{ws:List Int}(ok:FrOk b ps ws):spread (ao_ b 0 ps ws)=0:=by
 have e:ao_ b 0 ps ws=List.replicate ps.length 0:=by
  show Ma.psums ps (Ma.wts b 0 ps.sum ws)=_
  unfold Ma.wts
  rw[Ma.mg_,Ma.he_,Ma.im_]
 have l2:=ok.l2
 have z:=Ma.kU_ (n:=ps.length) (x:=0) (by lia)
 unfold spread
 rw[e,z.1,z.2]
 rfl
end Hv
namespace Mx
open Me Mg Mu
variable{b d e:Nat}{ps:List Nat}{ws:List Int}{m n:Nat}
theorem nY_(ok:Hv.FrOk b ps ws):nrI b d ps ws 0=1:=by
 rw[nrI_le,Hv.kH_ ok]
 lia
theorem nrN_pos(ok:Hv.FrOk b ps ws)(h:0<n):1<=nrN b d ps ws n:=by
 have h1:=oX_ (b:=b) (d:=d) (ps:=ps) (ws:=ws) (show 0+1<=n by lia)
 rw[nrN_succ,nY_ ok] at h1
 have:nrN b d ps ws 0=0:=rfl
 lia
theorem nr_far(ok:Hv.FrOk b ps ws)(h:1620<=d):nrI b d ps ws n=1:=by
 rw[nrI_le]
 have:=(Hv.jm_ (n:=n) ok).2
 lia
theorem nrN_far(ok:Hv.FrOk b ps ws)(h:1620<=d):∀n:Nat,nrN b d ps ws n=n
 | 0=>rfl
 | n+1=>by
  rw[nrN_succ,nr_far ok h,nrN_far ok h n]
  push_cast
  rfl
end Mx
namespace Hv
open PySem L2
theorem FrAt.kps{H H':Hp}{f a c st:Addr}{b:Nat}{ps:List Nat}{ws:List Int}(G:FrAt H f a c b ps ws)(S:Store H st)(ha:a≠st)(hc:c≠st)(k:Kp [st] H H'):FrAt H' f a c b ps ws:=by
 refine⟨k _ _ G.tp (fun z=>?_),k _ _ G.hp (by simpa using ha),k _ _ G.hw (by simpa using hc),G.ok⟩
 have z':f=st:=by simpa using z
 obtain⟨x,y,w,e⟩:=S
 have:=G.tp
 rw[z',e] at this
 cases this
theorem hG_{b:Nat}{ps:List Nat}{ws:List Int}(ok:FrOk b ps ws):0<b ^ ps.sum:=Nat.pow_pos (by have:=ok.b2;lia)
theorem lX_{c A:Prop}[Decidable c]{nx:St->Hp->Prop}{σ:St}{H:Hp}(Good:St->Hp->Prop)(h:∀ σ H,Good σ H->nx σ H)(hA:c->(∀ σ H,Good σ H->nx σ H)->A)(hB:¬ c->Good σ H):if c then A else nx σ H:=by
 by_cases z:c
 ·rw[if_pos z];exact hA z h
 ·rw[if_neg z];exact h _ _ (hB z)
theorem gL_{i j:Int}(h:i=j):(!decide (V.int i=V.int j))=false:=by rw[h];simp
section
variable{H:Hp}{Q:VK}{E:XK}{f a c:Addr}{b d n k:Nat}{ps:List Nat}{ws:List Int}
def ByV(b d:Nat)(ps:List Nat)(ws:List Int)(k:Nat)(v:V):Prop:=(v=.non/\Mx.nrN b d ps ws (b ^ ps.sum)<=k)\/∃m:Nat,v=.int m/\m<b ^ ps.sum/\Mx.nrI b d ps ws m=1/\Mx.nrN b d ps ws m=k
theorem ByV.far(h:(k:Int)<Mx.nrN b d ps ws (b ^ ps.sum)){v:V}(q:ByV b d ps ws k v):∃m:Nat,v=.int m/\m<b ^ ps.sum/\Mx.nrI b d ps ws m=1/\Mx.nrN b d ps ws m=k:=by
 rcases q with⟨_,z⟩ | q
 ·lia
 ·exact q
end
theorem cS_{H H2 H3:Hp}{q:Addr}(s:Same H H2)(h:H q=none)(k:Kp [q] H2 H3):Same H H3:=fun b o e=>k b o (s b o e) (fun z=>by
 have z':b=q:=by simpa using z
 rw[z',h] at e;cases e)
def jp_:Sp:=fun vs H Q _=>∃(st f a c:Addr) (b:Nat) (ps:List Nat) (ws:List Int),vs=[.ref st,.ref f]/\Store H st/\FrAt H f a c b ps ws/\a≠st/\c≠st/\∀(r:Nat) (H':Hp),Store H' st->Kp [st] H H'->Q (.int r) H'
section
variable{P:Program}{w:World}{K:PySem.W.Frag}{mg:Str->Option Value}{base:Heap}
theorem mA_:FnScope ["store","frame","far"] ["store","frame"] (h_ sLawD):=⟨rfl,rfl,rfl,by decide +kernel,rfl,by decide +kernel,by decide +kernel⟩
theorem nP_{f:Addr}{fd:FuncData}(F:Fun K "_law_d" "_law_d" sLawD f fd)(T:Txt mg)(d_law_take:Def P w K mg base 1 "_law_take" ["store","many"] dr_):FnOk P w K mg base CX0 2 f fd ["store","frame"] jp_:=by
 refine F.ok mA_ (fun vs H Q E h=>?_) (fun cdv A outer s H vs Q E hr h=>?_)
 ·obtain⟨st,g,a,c,b,ps,ws,rfl,_⟩:=h;rfl
 ·obtain⟨st,g,a,c,b,ps,ws,rfl,S,G,na,nc,k⟩:=h
  have nd:=mA_.nd
  refine⟨_,(b_ (i_ (i:=2) nd rfl (Or.inl rfl) (ixl (s_ (a_ e_ (a_ e_ d_))) (Q_ ax_ (by rfl) T.int boot_int (a_ (aw_ cl_ (lenS T.len (by rfl) (ixt (pv 1) e_)) e_ (nomark _)) d_))))
   (g_ (q_ (ixl (s_ (a_ e_ (a_ e_ (a_ (p_ d_law_take hr (by rfl) (a_ (pv 0) (a_ e_ d_))) (a_ (p_ d_law_take hr (by rfl) (a_ (pv 0) (a_ (pv 2) d_))) (a_ (m_ R_ (m_ fm_ e_ e_) (p_ d_law_take hr (by rfl) (a_ (pv 0) (a_ e_ d_)))) d_)))))) (p_ d_law_take hr (by rfl) (a_ (pv 0) (a_ e_ d_))))))),?_⟩
  refine⟨sz (by simp),fun l1 hl1=>?_⟩
  have s1:=f_ (o:=.lst [.int 20,.int 800]) hl1
  have u1:(upd H l1 (.lst [.int 20,.int 800])) l1=_:=c_
  generalize upd H l1 (.lst [.int 20,.int 800])=H1 at s1 u1⊢
  have G1:=G.keep s1
  have S1:=S.keep s1
  refine⟨_,rfl,_,_,_,_,rfl,rfl,SqT.of G1.tp,rfl,a,_,rfl,.inl (SqL.of G1.hp),rfl,.inr ⟨_,rfl,?_⟩⟩
  obtain⟨L,eL,hL⟩:=cm_ (ns:=[20,800]) (i:=if decide (V.int (((natV ps).length:Nat):Int)=V.int 2)=true then 1 else 0) (Pr:=fun n=>0<n/\n<1073741824) (by split <;> decide) (by split <;> decide) (by simp)
  refine bB_ u1 eL ?_
  refine⟨_,rfl,st,12,rfl,S1,by decide,by decide,fun r1 H2 r10 r11 S2 k2=>?_⟩
  refine⟨_,rfl,_,rfl,st,L,rfl,S2,hL.1,hL.2,fun r2 H3 r20 r21 S3 k3=>?_⟩
  refine⟨_,_,rfl,rfl,⟨by decide,by decide,by decide⟩,_,rfl,st,9,rfl,S3,by decide,by decide,fun r3 H4 r30 r31 S4 k4=>⟨_,_,rfl,rfl,sz (by simp),fun l hl=>?_⟩⟩
  refine⟨_,rfl,st,5,rfl,S4.keep (f_ hl),by decide,by decide,fun r4 H5 r40 r41 S5 k5=>?_⟩
  have h25:(10:Int) ^ (25:Int).toNat=10000000000000000000000000:=by decide
  obtain⟨M,eM,hM⟩:=cm_ (ns:=[0,1,r1,r2,(10:Int) ^ (25:Int).toNat-r3]) (i:=r4) (Pr:=fun n=>0<=n) r40 r41 (by
   intro y hy
   simp only[List.mem_cons,List.not_mem_nil,or_false] at hy
   rcases hy with rfl | rfl | rfl | rfl | rfl <;> lia)
  refine bB_ (k5 l _ c_ (S4.off1 hl)) eM ?_
  obtain⟨r,rfl⟩:∃r:Nat,M=(r:Int):=⟨M.toNat,by lia⟩
  exact k r _ S5 (((((Kp.of s1).trans k2).trans k3).trans k4).trans ((Kp.of (f_ hl)).trans k5))
end
end Hv
namespace L2
open PySem PySem.Spec PyProof.Rows
theorem vrange:∀ {us:List Value} {f:Nat->V},(∀(j:Nat) v,us[j]?=some v->RelV (f j) v)->Vals ((List.range us.length).map f) us
 | [],_,_=>.nil
 | u::r,f,h=>by
  rw[List.length_cons,List.range_succ_eq_map,List.map_cons,List.map_map]
  exact .cons (h 0 u rfl) (vrange (f:=f∘Nat.succ) fun j v e=>h (j+1) v (by simpa using e))
section
variable{X:Cx}{e a b:Expr}{te ta tb:TE}
def ls_(ta:TA):TE:=fun σ H Q=>ta σ H fun xs H2=>∃lo hi:Int,xs=[.int lo,.int hi]/\(-100000<=lo/\lo<=100000/\-100000<=hi/\hi<=100000)/\∀p,H2 p=none->Q (.ref p) (upd H2 p (.lst ((List.range (hi-lo).toNat).map fun(i:Nat)=>V.int (lo+(i:Int)))))
theorem io_{p1 p2 q1 q2:Pos}{ta:TA}(hc:X.calm=true)(hm1:X.mg "list"=none)(hm2:X.mg "range"=none)(hg1:Gl X "list")(hg2:Gl X "range")(ha:PA X [a,b] ta)(hs:starEach [a,b] X.env=[(false,eval a X.env),(false,eval b X.env)]:=by rfl)(hs2:starEach [b] X.env=[(false,eval b X.env)]:=by rfl) :
  PE X (.Call (.Name "list" p1) [.Call (.Name "range" p2) [a,b] [] q2] [] q1) (ls_ ta):=by
 intro pins s σ H Q I h
 refine wpAny_Call_Name_kw (aP_ I hg1 hm1 boot_list ?_)
 refine PyProof.Rows.callWith_type1 ?_ rfl rfl
 show wpAny _ _ (spliced ((false,eval (.Call (.Name "range" p2) [a,b] [] q2) X.env)::backTo q1 (starEach [] X.env))) _ _ s
 refine Calls.spliced_cons ?_
 refine wpAny_Call_Name_kw (aP_ I hg2 hm2 boot_range ?_)
 refine PyProof.Rows.callWith_type1 (thn (ha q2 pins s σ H _ I h) fun us s1 ⟨vs,H1,I1,r1,q1⟩=>?_) (by rw[hs,hs2]) (by rw[hs2];rfl)
 obtain⟨lo,hi,e,⟨b1,b2,b3,b4⟩,q⟩:=q1
 subst e
 cases r1 with
 | cons r rr =>
 cases rr with
 | cons r' rr =>
 cases rr
 obtain⟨t,rfl⟩:=r
 obtain⟨t',rfl⟩:=r'
 refine call_range_2 ?_
 refine Calls.spliced_nil ?_
 refine call_list_range (n:=(hi-lo).toNat) (I1.ok.hd hc) (IsRange.new ..) (small_one (by lia) (by lia) (by lia) (by lia)) (by rw[rangeSize_one];split <;> lia) (by lia) fun h' tk acc c' hk hS hacc=>?_
 have hnew:s1.heap.objs.size<=(s1.heap.push {cls:=.type "range",data:=.fields #[.int lo t,.int hi t',.int 1 s1.toks]}).objs.size:=by rw[Heap.size_push];exact Nat.le_succ _
 obtain⟨ha,hb⟩:=hacc
 have hlen:acc.toList.length=(hi-lo).toNat:=by simpa using ha
 have hv:Vals ((List.range (hi-lo).toNat).map fun(i:Nat)=>V.int (lo+(i:Int))) acc.toList:=by
  have z:=vrange (us:=acc.toList) (f:=fun(i:Nat)=>V.int (lo+(i:Int))) fun j v e=>by
   obtain⟨t,rfl⟩:=hb j v (by simpa using e)
   exact⟨t,by simp⟩
  rw[hlen] at z
  exact z
 have hz:((List.range (hi-lo).toNat).map fun(i:Nat)=>V.int (lo+(i:Int))).length<=sizeLine:=by
  rw[List.length_map,List.length_range]
  exact Nat.le_trans (show(hi-lo).toNat<=1000000 by lia) (by decide)
 refine⟨.ref _,_,I1.laid (t':=tk) (o:=.lst ((List.range (hi-lo).toNat).map fun(i:Nat)=>V.int (lo+(i:Int)))) (fun b o e=>hk b o (Heap.get?_push_of_some _ e)) hnew ⟨hz,acc.toList,c',hv,?_⟩,rfl,q _ (I1.hok.fresh hnew)⟩
 rw[hS]
def ox_(H₀:Hp)(t:TE):TE:=fun σ H Q=>t σ H fun v H'=>∃a o kvs,H' a=some (.frz o (.dK kvs))/\(∀o u,H₀ a≠some (.frz o u))/\Q v (upd H' a (.dK kvs))
theorem nF_{t:TE}(h:PE X e t):PE X e (ox_ X.H₀ t):=fun pins s σ H Q I q =>
 thn (h pins s σ H _ I q) fun v s1 ⟨x,H1,I1,r,a,o,kvs,e,hb,q⟩=>⟨x,_,I1.thaw e hb,r,q⟩
theorem nL_(P:Program)(w:World)(hP:X.prog=P)(hw:X.w=w)(hu:X.A.units+64<cLine):OpR X (compareOp .Eq) (rEqD P w false):=by
 subst hP hw
 exact mL_ hu
end
end L2
namespace Mu
open Me Mg
section
variable{b n p:Nat}{ps1 ps2:List Nat}{ws row0:List Int}{tg:Option Int}
abbrev lft(p:Nat)(ps2:List Nat)(i:Nat):Nat:=(p-i)+ps2.sum
theorem u_lt(hb:0<b)(hn:n<b ^ (ps1++p::ps2).sum):n / b ^ (p+ps2.sum)<b ^ ps1.sum:=by
 refine Nat.div_lt_of_lt_mul ?_
 rw[<-Nat.pow_add,Nat.add_comm]
 rw[List.sum_append,List.sum_cons] at hn
 exact hn
theorem ky_(hi:i<p):n / b ^ lft p ps2 i*b+n / b ^ lft p ps2 (i+1) % b=n / b ^ lft p ps2 (i+1):=by
 have:=kM_ (b:=b) (n:=n) (k:=lft p ps2 (i+1))
 rw[show lft p ps2 (i+1)+1=lft p ps2 i by unfold lft;lia] at this
 exact this.symm
theorem iP_(hb:0<b){i:Nat}{row:List Int}{wt:Int}(hi:i<p)(hwt:row[i]?=some wt):ws1 b (n / b ^ lft p ps2 i % b ^ i) (row.take i)+((n / b ^ lft p ps2 (i+1) % b:Nat):Int)*wt=ws1 b (n / b ^ lft p ps2 (i+1) % b ^ (i+1)) (row.take (i+1)):=by
 have e:n / b ^ lft p ps2 (i+1) % b ^ (i+1)=n / b ^ lft p ps2 i % b ^ i*b+n / b ^ lft p ps2 (i+1) % b:=by
  have e1:n / b ^ lft p ps2 i=n / b ^ lft p ps2 (i+1) / b:=by
   rw[Nat.div_div_eq_div_mul,<-Nat.pow_succ]
   congr 2
   unfold lft
   lia
  rw[e1,Nat.pow_succ,Nat.mul_comm (b ^ i),Nat.mod_mul,Nat.mul_comm b]
  lia
 rw[e,List.take_add_one,hwt]
 exact(hf_ b _ _ (row.take i) wt (Nat.mod_lt _ hb)).symm
theorem jY_(hb:0<b)(hn:n<b ^ (ps1++p::ps2).sum)(hw:ws.length=ps1.sum+(p+ps2.sum)){row:List Int}(er:(ws.drop ps1.sum).take p=row):sumsN b (n / b ^ ps2.sum) (ps1++[p]) (ws.take (ps1.sum+p))=sumsN b (n / b ^ (p+ps2.sum)) ps1 (ws.take ps1.sum)++[ws1 b (n / b ^ ps2.sum % b ^ p) row]:=by
 have e:=fk_ (b:=b) (n:=n) (k:=ps2.sum) (i:=p)
 rw[Nat.add_comm ps2.sum p] at e
 have:=eT_ (ps1:=ps1) (p:=p) (u:=n / b ^ (p+ps2.sum)) (v:=n / b ^ ps2.sum % b ^ p) (ws:=ws) hb (u_lt hb hn) (Nat.mod_lt _ (Nat.pow_pos hb)) (by lia)
 rw[<-e,er] at this
 exact this
end
end Mu
namespace Mx
open Me Mg Mu
def mn(low x:Int):Int:=if x<low then x else low
def mx(high x:Int):Int:=if x>high then x else high
def frC(b d:Nat):List (List Int)->Int->Int->Int
 | [],_,_=>1
 | row::rows,low,high=>tg (waysW b row) fun x=>if high-d<=x/\x<=low+d then frC b d rows (mn low x) (mx high x) else 0
def fromN(b d:Nat)(row:List Int)(rows:List (List Int))(here:Int):Int:=tg (waysW b row) fun x=>frC b d rows (here+x) (here+x)
def fromW(b d:Nat)(row:List Int)(rows:List (List Int))(here low high:Int):Int:=tg (waysW b row) fun x=>if high-d<=here+x/\here+x<=low+d then frC b d rows (mn low (here+x)) (mx high (here+x)) else 0
theorem frC_from(b d:Nat)(row:List Int)(rows:List (List Int))(low high:Int):frC b d (row::rows) low high=fromW b d row rows 0 low high:=by
 unfold fromW
 show tg _ _=_
 exact G_ fun x=>by rw[Int.zero_add]
def nb(d:Nat):Int->Int->List Int->Bool
 | _,_,[]=>true
 | low,high,x::v=>(decide (high-d<=x)&&decide (x<=low+d))&&nb d (mn low x) (mx high x) v
theorem kE_{b d:Nat}:∀(rows:List (List Int)) (low high:Int),frC b d rows low high=tr b rows fun v=>if nb d low high v=true then 1 else 0
 | [],_,_=>rfl
 | row::rows,low,high=>by
  show tg _ _=tg _ _
  refine G_ fun x=>?_
  by_cases h:high-d<=x/\x<=low+d
  ·rw[if_pos h,kE_ rows]
   refine ay_ fun v _=>?_
   show _=if ((decide (high-(d:Int)<=x)&&decide (x<=low+(d:Int)))&&nb d (mn low x) (mx high x) v)=true then 1 else 0
   rw[decide_eq_true h.1,decide_eq_true h.2,Bool.true_and,Bool.true_and]
  ·rw[if_neg h]
   refine(gb_ (b:=b) rows).symm.trans (ay_ fun v _=>?_)
   have:nb d low high (x::v)=false:=by
    show((decide (high-(d:Int)<=x)&&decide (x<=low+(d:Int)))&&nb d (mn low x) (mx high x) v)=false
    by_cases h1:high-(d:Int)<=x
    ·rw[decide_eq_false (fun z=>h ⟨h1,z⟩),Bool.and_false,Bool.false_and]
    ·rw[decide_eq_false h1,Bool.false_and,Bool.false_and]
   show(0:Int)=if nb d low high (x::v)=true then 1 else 0
   rw[this,if_neg (by decide)]
def Pn(d:Nat)(low high:Int)(v:List Int):Prop:=(∀y∈v,y-low<=d/\high-y<=d)/\∀y∈v,∀z∈v,y-z<=d
theorem hN_{d:Nat}:∀(v:List Int) (low high:Int),low<=high->high-low<=d->(nb d low high v=true↔Pn d low high v)
 | [],_,_,_,_=>⟨fun _=>⟨fun y h=>by simp at h,fun y h=>by simp at h⟩,fun _=>rfl⟩
 | x::v,low,high,h1,h2=>by
  show((decide (high-(d:Int)<=x)&&decide (x<=low+(d:Int)))&&nb d (mn low x) (mx high x) v)=true↔_
  rw[Bool.and_eq_true,Bool.and_eq_true,decide_eq_true_eq,decide_eq_true_eq]
  have m1:mn low x<=low/\mn low x<=x/\(mn low x=low\/mn low x=x):=by unfold mn;split <;> lia
  have m2:high<=mx high x/\x<=mx high x/\(mx high x=high\/mx high x=x):=by unfold mx;split <;> lia
  constructor
  ·rintro⟨⟨a1,a2⟩,a3⟩
   have ih:=(hN_ v (mn low x) (mx high x) (by lia) (by lia)).mp a3
   refine⟨fun y hy=>?_,fun y hy z hz=>?_⟩
   ·rcases List.mem_cons.mp hy with rfl | hy
    ·lia
    ·have:=ih.1 y hy
     lia
   ·rcases List.mem_cons.mp hy with ey | hy'
    ·rcases List.mem_cons.mp hz with ez | hz'
     ·lia
     ·have:=ih.1 z hz'
      lia
    ·rcases List.mem_cons.mp hz with ez | hz'
     ·have:=ih.1 y hy'
      lia
     ·exact ih.2 y hy' z hz'
  ·rintro⟨p1,p2⟩
   have q:=p1 x (by simp)
   refine⟨⟨by lia,by lia⟩,(hN_ v (mn low x) (mx high x) (by lia) (by lia)).mpr ⟨fun y hy=>?_,fun y hy z hz=>p2 y (by simp[hy]) z (by simp[hz])⟩⟩
   have r1:=p1 y (by simp[hy])
   have r2:=p2 y (by simp[hy]) x (by simp)
   have r3:=p2 x (by simp) y (by simp[hy])
   lia
theorem nt_{v:List Int}(h:0<v.length){d:Int}:sprd v<=d↔∀y∈v,∀z∈v,y-z<=d:=by
 obtain⟨a1,a2⟩:=Ma.x_ v h
 obtain⟨b1,b2⟩:=Ma.v_ v h
 unfold sprd
 constructor
 ·intro q y hy z hz
  have:=a2 y hy
  have:=b2 z hz
  lia
 ·intro q
  exact q _ a1 _ b1
theorem ey_{d:Nat}{pre w:List Int}(hp:0<pre.length):sprd (pre++w)<=(d:Int)↔Ma.maxL pre-Ma.minL pre<=d/\Pn d (Ma.minL pre) (Ma.maxL pre) w:=by
 obtain⟨a1,a2⟩:=Ma.x_ pre hp
 obtain⟨b1,b2⟩:=Ma.v_ pre hp
 rw[nt_ (by rw[List.length_append];lia)]
 constructor
 ·intro q
  refine⟨q _ (List.mem_append_left _ a1) _ (List.mem_append_left _ b1),fun y hy=>⟨q _ (List.mem_append_right _ hy) _ (List.mem_append_left _ b1),q _ (List.mem_append_left _ a1) _ (List.mem_append_right _ hy)⟩,fun y hy z hz=>q _ (List.mem_append_right _ hy) _ (List.mem_append_right _ hz)⟩
 ·rintro⟨q1,q2,q3⟩ y hy z hz
  rcases List.mem_append.mp hy with hy | hy
  ·rcases List.mem_append.mp hz with hz | hz
   ·have:=a2 y hy
    have:=b2 z hz
    lia
   ·have:=a2 y hy
    have:=(q2 z hz).2
    lia
  ·rcases List.mem_append.mp hz with hz | hz
   ·have:=b2 z hz
    have:=(q2 y hy).1
    lia
   ·exact q3 y hy z hz
theorem lQ_{d:Nat}{x:Int}{v:List Int}:sprd (x::v)<=(d:Int)↔Pn d x x v:=by
 have h:=ey_ (d:=d) (pre:=[x]) (w:=v) (by simp)
 have e1:Ma.maxL [x]=x:=rfl
 have e2:Ma.minL [x]=x:=rfl
 rw[e1,e2] at h
 rw[show x::v=[x]++v from rfl,h]
 constructor
 ·exact fun z=>z.2
 ·exact fun z=>⟨by lia,z⟩
def ind(d:Nat)(v:List Int):Int:=if sprd v<=(d:Int) then 1 else 0
section
variable{b d p t u v:Nat}{ps1 ps2:List Nat}{ws row:List Int}
theorem mo_(hb:0<b)(hw:ws.length=ps1.sum+(p+ps2.sum))(er:(ws.drop ps1.sum).take p=row)(ht:t<=p)(hu:u<b ^ ps1.sum)(hv:v<b ^ t){i1 i2:Nat}(h1:i1<b ^ (p-t))(h2:i2<b ^ ps2.sum) :
  sumsN b ((u*b ^ t+v)*b ^ lft p ps2 t+(i1*b ^ ps2.sum+i2)) (ps1++p::ps2) ws=sumsN b u ps1 (ws.take ps1.sum)++(ws1 b v (row.take t)+ws1 b i1 (row.drop t))::sumsN b i2 ps2 (ws.drop (ps1.sum+p)):=by
 have hrl:row.length=p:=by rw[<-er,List.length_take,List.length_drop];lia
 have e1:(u*b ^ t+v)*b ^ lft p ps2 t+(i1*b ^ ps2.sum+i2)=u*b ^ (p::ps2).sum+((v*b ^ (p-t)+i1)*b ^ ps2.sum+i2):=by
  have ep:b ^ (p::ps2).sum=b ^ t*b ^ lft p ps2 t:=by rw[<-Nat.pow_add,List.sum_cons];congr 1;unfold lft;lia
  have el:b ^ lft p ps2 t=b ^ (p-t)*b ^ ps2.sum:=by rw[<-Nat.pow_add]
  rw[ep,el]
  grind
 have hvp:v*b ^ (p-t)+i1<b ^ p:=by
  have:(v+1)*b ^ (p-t)<=b ^ t*b ^ (p-t):=Nat.mul_le_mul_right _ hv
  rw[Nat.add_mul,Nat.one_mul,<-Nat.pow_add,show t+(p-t)=p by lia] at this
  lia
 have hvq:(v*b ^ (p-t)+i1)*b ^ ps2.sum+i2<b ^ (p::ps2).sum:=by
  have:(v*b ^ (p-t)+i1+1)*b ^ ps2.sum<=b ^ p*b ^ ps2.sum:=Nat.mul_le_mul_right _ hvp
  rw[Nat.add_mul,Nat.one_mul,<-Nat.pow_add] at this
  rw[List.sum_cons]
  lia
 rw[e1,cx_ hb ps1 (p::ps2) ws u _ hu hvq (by rw[List.sum_cons];exact hw),bg_ hb h2 (by rw[List.length_drop];lia),er,List.drop_drop]
 congr 2
 have e2:=eM_ (b:=b) (d:=v) (i:=i1) (r1:=row.take t) (r2:=row.drop t) hb (by rw[List.length_drop,hrl];exact h1)
 rw[List.take_append_drop,List.length_drop,hrl] at e2
 exact e2
theorem lc_(hb:0<b)(hw:ws.length=ps1.sum+(p+ps2.sum))(er:(ws.drop ps1.sum).take p=row)(ht:t<=p)(hu:u<b ^ ps1.sum)(hv:v<b ^ t) :
  ns (fun i=>ind d (sumsN b ((u*b ^ t+v)*b ^ lft p ps2 t+i) (ps1++p::ps2) ws)) (b ^ lft p ps2 t)=tg (waysW b (row.drop t)) fun x=>tr b (Ma.cuts ps2 (ws.drop (ps1.sum+p))) fun w=>ind d (sumsN b u ps1 (ws.take ps1.sum)++(ws1 b v (row.take t)+x)::w):=by
 have hrl:row.length=p:=by rw[<-er,List.length_take,List.length_drop];lia
 have el:b ^ lft p ps2 t=b ^ (p-t)*b ^ ps2.sum:=by rw[<-Nat.pow_add]
 have hdl:(row.drop t).length=p-t:=by rw[List.length_drop,hrl]
 rw[el,ft_]
 rw[<-dJ_,hdl]
 refine L_ fun i1 h1=>?_
 rw[<-nf_ hb ps2 (ws.drop (ps1.sum+p)) _ (by rw[List.length_drop];lia)]
 refine L_ fun i2 h2=>?_
 rw[<-el,mo_ hb hw er ht hu hv h1 h2]
theorem px_(hb:0<b)(hw:ws.length=p+ps2.sum)(er:ws.take p=row)(ht:t<=p)(hv:v<b ^ t) :
  ns (fun i=>ind d (sumsN b (v*b ^ lft p ps2 t+i) (p::ps2) ws)) (b ^ lft p ps2 t)=fromN b d (row.drop t) (Ma.cuts ps2 (ws.drop p)) (ws1 b v (row.take t)):=by
 have h:=lc_ (b:=b) (d:=d) (p:=p) (t:=t) (u:=0) (v:=v) (ps1:=[]) (ps2:=ps2) (ws:=ws) (row:=row) hb (by simpa using hw) (by simpa using er) ht (by simp) hv
 simp only[Nat.zero_mul,Nat.zero_add,List.nil_append,List.sum_nil] at h
 rw[h]
 unfold fromN
 refine G_ fun x=>?_
 rw[kE_]
 refine ay_ fun w _=>?_
 have e:sumsN b 0 [] (ws.take 0)=[]:=rfl
 rw[e,List.nil_append]
 unfold ind
 have:=(lQ_ (d:=d) (x:=ws1 b v (row.take t)+x) (v:=w)).trans (hN_ w _ _ (Int.le_refl _) (by lia)).symm
 by_cases z:sprd ((ws1 b v (row.take t)+x)::w)<=(d:Int)
 ·rw[if_pos z,if_pos (this.mp z)]
 ·rw[if_neg z,if_neg (fun y=>z (this.mpr y))]
theorem pL_(hb:0<b)(hw:ws.length=ps1.sum+(p+ps2.sum))(er:(ws.drop ps1.sum).take p=row)(ht:t<=p)(hu:u<b ^ ps1.sum)(hv:v<b ^ t)(hp:0<ps1.length){low high:Int}(hlo:low=Ma.minL (sumsN b u ps1 (ws.take ps1.sum)))(hhi:high=Ma.maxL (sumsN b u ps1 (ws.take ps1.sum)))(hd:high-low<=d) :
  ns (fun i=>ind d (sumsN b ((u*b ^ t+v)*b ^ lft p ps2 t+i) (ps1++p::ps2) ws)) (b ^ lft p ps2 t)=fromW b d (row.drop t) (Ma.cuts ps2 (ws.drop (ps1.sum+p))) (ws1 b v (row.take t)) low high:=by
 rw[lc_ hb hw er ht hu hv]
 generalize hpre:sumsN b u ps1 (ws.take ps1.sum)=pre at *
 have hl:0<pre.length:=by rw[<-hpre];show 0<(Ma.psums _ _).length;rw[Ma.aL_];exact hp
 have hle:low<=high:=by rw[hlo,hhi];exact(Ma.v_ pre hl).2 _ (Ma.x_ pre hl).1
 unfold fromW
 refine G_ fun x=>?_
 generalize ws1 b v (row.take t)+x=y
 have e:(if high-(d:Int)<=y/\y<=low+(d:Int) then frC b d (Ma.cuts ps2 (ws.drop (ps1.sum+p))) (mn low y) (mx high y) else 0)=tr b (Ma.cuts ps2 (ws.drop (ps1.sum+p))) fun w=>if nb d low high (y::w)=true then 1 else 0:=by
  by_cases h:high-(d:Int)<=y/\y<=low+(d:Int)
  ·rw[if_pos h,kE_]
   refine ay_ fun w _=>?_
   show _=if ((decide (high-(d:Int)<=y)&&decide (y<=low+(d:Int)))&&nb d (mn low y) (mx high y) w)=true then 1 else 0
   rw[decide_eq_true h.1,decide_eq_true h.2,Bool.true_and,Bool.true_and]
  ·rw[if_neg h]
   refine(gb_ (b:=b) _).symm.trans (ay_ fun w _=>?_)
   have:nb d low high (y::w)=false:=by
    show((decide (high-(d:Int)<=y)&&decide (y<=low+(d:Int)))&&nb d (mn low y) (mx high y) w)=false
    by_cases h1:high-(d:Int)<=y
    ·rw[decide_eq_false (fun z=>h ⟨h1,z⟩),Bool.and_false,Bool.false_and]
    ·rw[decide_eq_false h1,Bool.false_and,Bool.false_and]
   rw[this,if_neg (by decide)]
 rw[e]
 refine ay_ fun w _=>?_
 unfold ind
 have h3:=ey_ (d:=d) (pre:=pre) (w:=y::w) hl
 rw[<-hlo,<-hhi] at h3
 have h4:=hN_ (d:=d) (y::w) low high hle hd
 by_cases z:sprd (pre++y::w)<=(d:Int)
 ·rw[if_pos z,if_pos (h4.mpr (h3.mp z).2)]
 ·rw[if_neg z,if_neg (fun q=>z (h3.mpr ⟨hd,h4.mp q⟩))]
theorem pM_(hb:0<b)(hw:ws.length=ps1.sum+(p+ps2.sum))(er:(ws.drop ps1.sum).take p=row)(ht:t<=p)(hu:u<b ^ ps1.sum)(hv:v<b ^ t)(hp:0<ps1.length)(hd:¬ Ma.maxL (sumsN b u ps1 (ws.take ps1.sum))-Ma.minL (sumsN b u ps1 (ws.take ps1.sum))<=d) :
  ns (fun i=>ind d (sumsN b ((u*b ^ t+v)*b ^ lft p ps2 t+i) (ps1++p::ps2) ws)) (b ^ lft p ps2 t)=0:=by
 rw[lc_ hb hw er ht hu hv]
 have hl:0<(sumsN b u ps1 (ws.take ps1.sum)).length:=by show 0<(Ma.psums _ _).length;rw[Ma.aL_];exact hp
 have e:∀x,tr b (Ma.cuts ps2 (ws.drop (ps1.sum+p))) (fun w=>ind d (sumsN b u ps1 (ws.take ps1.sum)++(ws1 b v (row.take t)+x)::w))=0:=fun x=>by
  rw[<-gb_ (b:=b) (Ma.cuts ps2 (ws.drop (ps1.sum+p)))]
  refine ay_ fun w _=>?_
  unfold ind
  rw[if_neg (fun z=>hd ((ey_ hl).mp z).1)]
 rw[G_ e,hp_,Int.mul_zero]
end
theorem fN_:∀(k:Nat) (ps:List Nat) (ws:List Int),(Ma.cuts ps ws).drop k=Ma.cuts (ps.drop k) (ws.drop (ps.take k).sum)
 | 0,_,_=>by simp
 | k+1,[],_=>by simp[Ma.cuts]
 | k+1,p::ps,ws=>by
  rw[Ma.cuts,List.drop_succ_cons,fN_ k,List.take_succ_cons,List.sum_cons,List.drop_drop,List.drop_succ_cons]
theorem kh_(f:Nat->Nat->Int)(m:Nat):∀n:Nat,ns (fun i=>ns (fun j=>f i j) m) n=ns (fun j=>ns (fun i=>f i j) n) m
 | 0=>by
  show(0:Int)=_
  exact(kg_ m).symm
 | n+1=>by
  show ns (fun i=>ns (fun j=>f i j) m) n+ns (fun j=>f n j) m=_
  rw[kh_ f m n,<-ki_]
  rfl
theorem bQ_(b:Nat)(l:List Int)(w:Int)(G:Int->Int):tg (waysW b (l++[w])) G=tg (waysW b l) fun x=>ns (fun(e:Nat)=>G (x+(e:Int)*w)) b:=by
 have h:waysW b (l++[w])=S_ (waysW b l) b w:=by
  unfold waysW
  rw[List.foldl_append]
  rfl
 rw[h,mv_]
theorem eO_(b:Nat)(w:Int):∀(n:Nat) (l:List Int),l.length=n->∀G:Int->Int,tg (waysW b (w::l)) G=tg (waysW b l) fun x=>ns (fun(e:Nat)=>G (x+(e:Int)*w)) b
 | 0,l,hl,G=>by
  have e:l=[]:=List.eq_nil_of_length_eq_zero hl
  subst e
  exact bQ_ b [] w G
 | n+1,l,hl,G=>by
  obtain⟨l',u,rfl⟩:∃l' u,l=l'++[u]:=⟨l.dropLast,l.getLast (by intro z;rw[z] at hl;cases hl),(List.dropLast_concat_getLast _).symm⟩
  have hl':l'.length=n:=by rw[List.length_append] at hl;simpa using hl
  rw[<-List.cons_append,bQ_,eO_ b w n l' hl',bQ_]
  refine G_ fun x=>?_
  rw[kh_ (fun i j=>G (x+(i:Int)*w+(j:Int)*u))]
  refine L_ fun i _=>L_ fun j _=>?_
  congr 1
  lia
theorem tg_rev(b:Nat):∀(l:List Int) (G:Int->Int),tg (waysW b l.reverse) G=tg (waysW b l) G
 | [],_=>rfl
 | w::l,G=>by rw[List.reverse_cons,bQ_,tg_rev b l,<-eO_ b w l.length l rfl]
end Mx
namespace L2
open PySem PySem.Spec PyProof.Rows
section
variable{X:Cx}
end
theorem fj_{X:Cx}{st:Stmt}{t:TS}(h:PS X st t):PS X st (fun D σ H=>∃I:St->Hp->Prop,t {D with nx:=I} σ H/\∀ σ' H',I σ' H'->D.nx σ' H'):=fun pins s σ H D I0 ⟨I,ht,hI⟩=>thn (h pins s σ H _ I0 ht) fun f s' hf=>by
 cases f with
 | next=>obtain⟨σ',H',i,q⟩:=hf;exact⟨σ',H',i,hI _ _ q⟩
 | brk=>exact hf
 | cont=>exact hf
 | ret u=>exact hf
section
variable{prog:Program}{w:World}{A:Around}{E:Value->Shared->Prop}{s:Shared}
theorem dE_{it t:Addr}{items:Array Value}(hne:t≠it):∀(n i:Nat) (s:Shared) (Q:List Value->Shared->Prop),s.heap.IsListIter it t i->s.heap.IsList t items->i+n<=items.size->
  (∀h',h'.IsListIter it t (i+n)->Heap.SameBut it s.heap h'->Q ((items.toList.drop i).take n) {s with heap:=h'})->wpAny (model prog w) A (draw (.ref it) n) Q E s
 | 0,i,s,Q,hit,_,_,hQ=>by
  show wpAny _ _ (pure []) Q E s
  exact wpAny_pure (by simpa using hQ s.heap hit (Heap.SameBut.refl ..))
 | n+1,i,s,Q,hit,ht,hle,hQ=>by
  have hlt:i<items.size:=by lia
  show wpAny _ _ (pyNext (.ref it)>>=_) Q E s
  refine wpAny_bind (wpAny_pyNext_list_item hit ht (x:=items[i]) (by simp[hlt]) fun h₁ hit₁ hs₁=>?_)
  refine wpAny_bind (wpAny_holding (dE_ hne n (i+1) _ _ hit₁ (ht.extBut hs₁.extBut hne) (by lia) fun h₂ hit₂ hs₂=>wpAny_pure ?_))
  have hd:items.toList.drop i=items[i]::items.toList.drop (i+1):=by simp[List.drop_eq_getElem_cons,hlt]
  have:=hQ h₂ (by rw[show i+(n+1)=i+1+n by lia];exact hit₂) (hs₁.trans hs₂)
  rw[hd,List.take_succ_cons] at this
  exact this
theorem cn_{env:Env}{elts:List Expr}{x1}{pos:Pos}{t:Addr}{items:Array Value}{Q:Unit->Shared->Prop}(hh:A.handled=none)(ht:s.heap.IsList t items)
  (hn:(assignEach elts env).length=items.size) (hstar:(assignEach elts env).findIdx? (·.1)=none)
  (h:∀h',Heap.ExtBut s.heap.objs.size s.heap h'->wpAny (model prog w) A (assignInOrder ((assignEach elts env).map (·.2)) items.toList) Q E {s with heap:=h'}) :
  wpAny (model prog w) A (assign (.Tuple elts x1 pos) env (.ref t)) Q E s:=by
 have hlt:t≠s.heap.objs.size:=by obtain⟨o,ho,_⟩:=ht;exact Nat.ne_of_lt (Heap.lt_size ho)
 rw[assign_Tuple]
 refine wpAny_bind (wpAny_standAt ?_)
 unfold unpack
 rw[hn,hstar]
 refine wpAny_bind (wpAny_holding ?_)
 unfold unpackItems
 refine wpAny_bind ?_
 unfold notIterableAtAll
 refine wpAny_bind (wpAny_specialOf ht.typeIs PySem.F.slot_list_iter.lookup ?_)
 refine wpAny_pure ?_
 simp only[Bool.false_eq_true,if_false]
 refine wpAny_bind (wpAny_holding (wpAny_pyIter_list ht ?_))
 refine wpAny_bind (wpAny_holding (dE_ hlt items.size 0 _ _ ⟨_,Heap.get?_push_size _ rfl,rfl,rfl⟩ (ht.push _) (by lia) fun h₁ hit₁ hs₁=>?_))
 have hall:List.take items.size (List.drop 0 items.toList)=items.toList:=by
  rw[List.drop_zero];exact List.take_of_length_le (by simp)
 rw[hall,if_neg (by simp)]
 have ht₁:h₁.IsList t items:=(ht.push _).extBut hs₁.extBut hlt
 refine wpAny_bind (wpAny_holding (wpAny_pyNext_list_end hh hit₁ ht₁ (by simp) fun h₂ he₂=>?_))
 simp only[Option.isSome_none,Bool.false_eq_true,if_false]
 exact wpAny_pure (h h₂ fun b o hb e=>he₂ b o hb (hs₁.extBut b o hb (Heap.get?_push_of_some _ e)))
end
section
variable{X:Cx}{pos:Pos}
def gLst(K:PySem.W.Frag)(n:Nat)(t:TGs):TG:=fun v σ H Q=>∃a xs,v=.ref a/\SqL K H a xs/\xs.length=n/\t xs σ H Q
theorem bX_{es:List Expr}{k:Nat}{t:TGs}{n:Nat}(hc:X.calm=true)(h:PGs X es t)
  (hn:(assignEach es X.env).length=n:=by rfl) (hst:(assignEach es X.env).findIdx? (·.1)=none:=by rfl):PG X (.Tuple es k pos) (gLst X.K n t):=by
 intro pins s σ H v u Q I r hw
 obtain⟨a,xs,e1,hq,hl,hw⟩:=hw
 subst e1
 cases r
 obtain⟨its,rv,pl,hz⟩:=I.list hq
 refine cn_ (I.ok.hd hc) pl.isList (by simp[hn,<-hl,rv.length]) hst fun h' hx=>?_
 have I1:Inv X pins σ H {s with heap:=h'}:=I.kept (t':=s.toks) fun b o e=>hx b o (Nat.ne_of_lt (Heap.lt_size e)) e
 exact h pins _ σ H xs _ Q I1 (by simpa using rv) hw
end
end L2
namespace Hv
open PySem L2
def RepR(H:Hp)(t:Addr)(b:Nat)(r:List Int):Prop:=∃g,H t=some (.dK (intsD g))/\Me.Ok g (135*(r.length:Int))/\(∀q∈g,0<=q.2/\q.2<=16777216)/\∀F:Int->Int,Mg.tg g F=Mg.tg (Me.waysW b r) F
def RowT(H:Hp)(ra:Addr)(ts:List Addr)(b:Nat)(row:List Int):Prop:=H ra=some (.lst (ts.map V.ref))/\ts.length=row.length+1/\∀(k:Nat) (t:Addr),ts[k]?=some t->RepR H t b (row.drop k)
def KnOk(b d:Nat)(ps:List Nat)(ws:List Int)(kvs:List (List Key×V)):Prop:=(kvs.map (·.1)).Nodup/\∀kv∈kvs,∃(i:Nat) (low high:Int),kv.1=[.inl (i:Int),.inl low,.inl high]/\i<4/\(-810<=low/\low<=810)/\(-810<=high/\high<=810)/\kv.2=.int (Mx.frC b d ((Ma.cuts ps ws).drop i) low high)
theorem fw_{α β:Type}{f:α->β}:∀ {l:List α},l.Nodup->(∀x∈l,∀y∈l,f x=f y->x=y)->(l.map f).Nodup
 | [],_,_=>by simp
 | a::l,h,hf=>by
  obtain⟨h1,h2⟩:=List.nodup_cons.mp h
  rw[List.map_cons]
  refine List.nodup_cons.mpr ⟨fun z=>?_,fw_ h2 fun x hx y hy=>hf x (by simp[hx]) y (by simp[hy])⟩
  obtain⟨y,hy,e⟩:=List.mem_map.mp z
  exact h1 (by rw[hf a (by simp) y (by simp[hy]) e.symm];exact hy)
def kcode:List Key->Nat
 | [.inl i,.inl lo,.inl hi]=>(i.toNat*1621+(lo+810).toNat)*1621+(hi+810).toNat
 | _=>0
theorem KnOk.len{b d:Nat}{ps:List Nat}{ws:List Int}{kvs:List (List Key×V)}(h:KnOk b d ps ws kvs):kvs.length<sizeLine:=by
 have hk:∀k∈kvs.map (·.1),∃(i:Nat) (low high:Int),k=[.inl (i:Int),.inl low,.inl high]/\i<4/\(-810<=low/\low<=810)/\(-810<=high/\high<=810):=fun k hk=>by
  obtain⟨kv,hkv,rfl⟩:=List.mem_map.mp hk
  obtain⟨i,lo,hi,e,h1,h2,h3,_⟩:=h.2 kv hkv
  exact⟨i,lo,hi,e,h1,h2,h3⟩
 have nd:=fw_ (f:=kcode) h.1 fun x hx y hy e=>by
  obtain⟨i,lo,hi,rfl,i1,l1,g1⟩:=hk x hx
  obtain⟨j,lo',hi',rfl,j1,l2,g2⟩:=hk y hy
  have e':((i:Int).toNat*1621+(lo+810).toNat)*1621+(hi+810).toNat=((j:Int).toNat*1621+(lo'+810).toNat)*1621+(hi'+810).toNat:=e
  have a1:i=j:=by omega
  have a2:lo=lo':=by omega
  have a3:hi=hi':=by omega
  rw[a1,a2,a3]
 have:=Me.gh_ (l:=(kvs.map (·.1)).map kcode) (m:=List.range 10510564) nd fun x hx=>by
  obtain⟨k,hk',rfl⟩:=List.mem_map.mp hx
  obtain⟨i,lo,hi,rfl,i1,l1,g1⟩:=hk k hk'
  refine List.mem_range.mpr ?_
  show((i:Int).toNat*1621+(lo+810).toNat)*1621+(hi+810).toNat<10510564
  omega
 rw[List.length_map,List.length_map,List.length_range] at this
 exact Nat.lt_of_le_of_lt this (by decide)
theorem KnOk.get{b d:Nat}{ps:List Nat}{ws:List Int}{kvs:List (List Key×V)}(h:KnOk b d ps ws kvs){i:Nat}{low high:Int}{v:V}(e:valV kvs [.inl (i:Int),.inl low,.inl high]=some v):v=.int (Mx.frC b d ((Ma.cuts ps ws).drop i) low high):=by
 unfold valV at e
 obtain⟨kv,hkv,rfl⟩:=Option.map_eq_some_iff.mp e
 have h1:=List.mem_of_find?_eq_some hkv
 have h2:=List.find?_some hkv
 have h3:kv.1=[.inl (i:Int),.inl low,.inl high]:=of_decide_eq_true h2
 obtain⟨j,lo,hi,e1,_,_,_,e2⟩:=h.2 kv h1
 rw[h3] at e1
 have a1:(i:Int)=(j:Int):=by injection e1 with z _;injection z
 have a2:low=lo:=by injection e1 with _ z;injection z with z _;injection z
 have a3:high=hi:=by injection e1 with _ z;injection z with _ z;injection z with z _;injection z
 have a4:i=j:=by omega
 subst a4 a2 a3
 exact e2
theorem KnOk.put{b d:Nat}{ps:List Nat}{ws:List Int}{kvs:List (List Key×V)}(h:KnOk b d ps ws kvs){i:Nat}{low high:Int}(hi:i<4)(hl : -810<=low/\low<=810)(hh : -810<=high/\high<=810)(e:valV kvs [.inl (i:Int),.inl low,.inl high]=none) :
  KnOk b d ps ws (putK kvs [.inl (i:Int),.inl low,.inl high] (.int (Mx.frC b d ((Ma.cuts ps ws).drop i) low high))):=by
 refine⟨oa_ _ h.1 e,fun kv hkv=>?_⟩
 rw[hD_ _ e] at hkv
 rcases List.mem_append.mp hkv with q | q
 ·exact h.2 kv q
 ·have:kv=_:=List.mem_singleton.mp q
  subst this
  exact⟨i,low,high,rfl,hi,hl,hh,rfl⟩
theorem KnOk.nil{b d:Nat}{ps:List Nat}{ws:List Int}:KnOk b d ps ws []:=⟨by simp,fun kv h=>by simp at h⟩
def nk_(tss:List (List Addr)):Prop:=∀(i j:Nat) (l m:List Addr),i≠j->tss[i]?=some l->tss[j]?=some m->∀t∈l,t∉m
structure ShAt(H:Hp)(k0:Nat)(sh rl kn f a c:Addr)(rs:List Addr)(tss:List (List Addr))(b d:Nat)(ps:List Nat)(ws:List Int):Prop where
 hs:H sh=some (.lst [.ref rl,.int d,.ref kn,.ref f])
 fr:FrAt H f a c b ps ws
 hr:H rl=some (.lst (rs.map V.ref))
 ln:rs.length=ps.length
 lt:tss.length=ps.length
 rw:∀(i:Nat) (row:List Int) (ra:Addr) (ts:List Addr),k0<=i->(Ma.cuts ps ws)[i]?=some row->rs[i]?=some ra->tss[i]?=some ts->RowT H ra ts b row
 ap:nk_ tss
 kn:∃kvs,H kn=some (.dT kvs)/\KnOk b d ps ws kvs
section
variable{H H':Hp}{k0:Nat}{sh rl kn f a c:Addr}{rs:List Addr}{tss:List (List Addr)}{b d:Nat}{ps:List Nat}{ws:List Int}
theorem RowT.keepW{ra:Addr}{ts:List Addr}{row:List Int}(h:RowT H ra ts b row)(k:∀x o,H x=some o->(∀kvs,o≠.dT kvs)->H' x=some o):RowT H' ra ts b row :=
 ⟨k _ _ h.1 (fun _ z=>nomatch z),h.2.1,fun j t e=>let ⟨g,h1,h2⟩:=h.2.2 j t e;⟨g,k _ _ h1 (fun _ z=>nomatch z),h2⟩⟩
theorem ShAt.kp(S:ShAt H k0 sh rl kn f a c rs tss b d ps ws)(k:Kp [kn] H H')(h:∃kvs,H' kn=some (.dT kvs)/\KnOk b d ps ws kvs):ShAt H' k0 sh rl kn f a c rs tss b d ps ws:=by
 obtain⟨kvs0,e0,_⟩:=S.kn
 have k':∀x o,H x=some o->(∀kvs,o≠.dT kvs)->H' x=some o:=fun x o e n=>k x o e (fun z=>by
  have z':x=kn:=by simpa using z
  rw[z',e0] at e
  exact n _ (Option.some.inj e).symm)
 exact⟨k' _ _ S.hs (fun _ z=>nomatch z),⟨k' _ _ S.fr.tp (fun _ z=>nomatch z),k' _ _ S.fr.hp (fun _ z=>nomatch z),k' _ _ S.fr.hw (fun _ z=>nomatch z),S.fr.ok⟩,k' _ _ S.hr (fun _ z=>nomatch z),S.ln,S.lt,fun i row ra ts h1 h2 h3 h4=>(S.rw i row ra ts h1 h2 h3 h4).keepW k',S.ap,h⟩
theorem ShAt.keep(S:ShAt H k0 sh rl kn f a c rs tss b d ps ws)(s:Same H H'):ShAt H' k0 sh rl kn f a c rs tss b d ps ws :=
 S.kp (Kp.of s) (let ⟨kvs,e,h⟩:=S.kn;⟨kvs,s _ _ e,h⟩)
theorem ShAt.up(S:ShAt H k0 sh rl kn f a c rs tss b d ps ws){k1:Nat}(h:k0<=k1):ShAt H k1 sh rl kn f a c rs tss b d ps ws :=
 ⟨S.hs,S.fr,S.hr,S.ln,S.lt,fun i row ra ts h1 h2 h3 h4=>S.rw i row ra ts (by omega) h2 h3 h4,S.ap,S.kn⟩
end
theorem jl_(ks:List (Option Expr))(vs:List Expr)(pos:Pos)(rest:List Expr)(env:Env):starEach (.Dict ks vs pos::rest) env=(false,eval (.Dict ks vs pos) env)::starEach rest env:=rfl
abbrev tSt1:TE:=tLst (tCons (tDisp [(tC (.int 0),tC (.int 1))]) tNil)
theorem oP_{X:Cx}{k v:Expr}{p5:Pos}{tk tv:TE}(h1:PE X k tk)(h2:PE X v tv):PE X (.Dict [some k] [v] p5) (tDisp [(tk,tv)]) :=
 jU_ (hF_ h1 h2 jO_) rfl rfl (List.cons_ne_nil _ _) (Nat.succ_le_succ (Nat.zero_le _))
theorem oO_{X:Cx}{ks:List (Option Expr)}{vs:List Expr}{p5 p6:Pos}{t:TE}(h:PE X (.Dict ks vs p5) t):PE X (.List [.Dict ks vs p5] p6) (tLst (tCons t tNil)) :=
 s_ (a_ h d_ (jl_ _ _ _ _ _))
@[irreducible] def e01:Expr:=match (O_ ar_).getD 3 (.Pass ⟨0,0,0,0⟩) with
 | .For _ _ (.Assign _ e _::_) _ _=>e
 | _=>.Constant .none 0 ⟨0,0,0,0⟩
theorem mY_:∃j1 j2 p1 p2 p5 p6,e01=.List [.Dict [some (.Constant (.int 0) j1 p1)] [.Constant (.int 1) j2 p2] p5] p6:=by
 unfold e01
 exact⟨_,_,_,_,_,_,rfl⟩
theorem oN_{X:Cx}:PE X e01 tSt1:=by
 obtain⟨j1,j2,p1,p2,p5,p6,h⟩:=mY_
 exact @Eq.mpr _ _ (congrArg (fun e=>PE X e tSt1) h) (@oO_ X [some (.Constant (.int 0) j1 p1)] [.Constant (.int 1) j2 p2] p5 p6 (tDisp [(tC (.int 0),tC (.int 1))]) (@oP_ X (.Constant (.int 0) j1 p1) (.Constant (.int 1) j2 p2) p5 (tC (.int 0)) (tC (.int 1)) e_ e_))
theorem oD_(x:Str)(pos':Pos)(l:Nat)(env:Env):swapsWith e01 (some (.Name x pos')) l env=pure false:=by
 obtain⟨j1,j2,p1,p2,p5,p6,h⟩:=mY_
 rw[h]
 rfl
def bSh:List Stmt:=match (O_ ar_).getD 3 (.Pass ⟨0,0,0,0⟩) with
 | .For t i (.Assign ts _ p::r) o q=>(O_ ar_).set 3 (.For t i (.Assign ts e01 p::r) o q)
 | _=>[]
theorem py_:O_ ar_=bSh:=by
 unfold bSh e01
 rfl
theorem lf_{us:List Addr}{i:Nat}{t:Addr}(hl:us.length=i+1)(h:us[i]?=some t):atI (us.map V.ref) (-1)=some (.ref t):=by
 have hl':(us.map V.ref).length=i+1:=by rw[List.length_map];exact hl
 have e:ixN (us.map V.ref).length (-1)=some i:=by
  rw[hl']
  unfold ixN
  rw[if_neg (by decide),if_pos (by omega)]
  congr 1
  omega
 unfold atI
 rw[e]
 show(us.map V.ref)[i]?=_
 rw[List.getElem?_map,h]
 rfl
def gp_:Sp:=fun vs H Q _=>∃(f a c:Addr) (b:Nat) (ps:List Nat) (ws:List Int),vs=[.ref f]/\FrAt H f a c b ps ws/\∀(f' a' c':Addr) (H':Hp),Same H H'->FrAt H' f' a' c' b ps ws->H f'=none->H a'=none->H c'=none->Q (.ref f') H'
def gk_:Sp:=fun vs H Q _=>∃(f a c:Addr) (b:Nat) (ps:List Nat) (ws:List Int) (d:Nat),vs=[.ref f,.int d]/\FrAt H f a c b ps ws/\∀(sh rl kn:Addr) (rs:List Addr) (tss:List (List Addr)) (H':Hp),Same H H'->ShAt H' 0 sh rl kn f a c rs tss b (min d 4000) ps ws->H kn=none->Q (.ref sh) H'
section
variable{P:Program}{w:World}{K:PySem.W.Frag}{mg:Str->Option Value}{base:Heap}
theorem mC_:FnScope ["frame"] ["frame"] (h_ sCopy):=⟨rfl,rfl,rfl,by decide +kernel,rfl,by decide +kernel,by decide +kernel⟩
theorem lM_{f:Addr}{fd:FuncData}(F:Fun K "_law_copy" "_law_copy" sCopy f fd)(T:Txt mg):FnOk P w K mg base CX0 1 f fd ["frame"] gp_:=by
 refine F.ok mC_ (fun vs H Q E h=>?_) (fun cdv A outer s H vs Q E hr h=>?_)
 ·obtain⟨f,a,c,b,ps,ws,rfl,_⟩:=h;rfl
 ·obtain⟨f,a,c,b,ps,ws,rfl,G,k⟩:=h
  have nd:=mC_.nd
  refine⟨_,(g_ (q_ (bD_ (a_ (ixt (pv 0) e_) (a_ (Q_ ct_ (by rfl) T.list boot_list (a_ (ixt (pv 0) e_) d_)) (a_ (Q_ ct_ (by rfl) T.list boot_list (a_ (ixt (pv 0) e_) d_)) d_)))))),?_⟩
  refine⟨_,rfl,_,_,_,_,rfl,rfl,SqT.of G.tp,rfl,⟨_,rfl,_,_,_,_,rfl,rfl,SqT.of G.tp,rfl,⟨a,_,rfl,.inl (SqL.of G.hp),fun a' ha'=>?_⟩⟩⟩
  have s1:=f_ (o:=.lst (natV ps)) ha'
  have u1:(upd H a' (.lst (natV ps))) a'=_:=c_
  generalize upd H a' (.lst (natV ps))=H1 at s1 u1⊢
  refine⟨_,rfl,_,_,_,_,rfl,rfl,SqT.of (s1 _ _ G.tp),rfl,⟨c,_,rfl,.inl (SqL.of (s1 _ _ G.hw)),fun c' hc'=>⟨sz (by simp),fun f' hf'=>?_⟩⟩⟩
  have s2:=f_ (o:=.lst (ws.map V.int)) hc'
  have s3:=f_ (o:=.tup [.int b,.ref a',.ref c']) hf'
  exact k f' a' c' _ (s1.trans (s2.trans s3)) ⟨c_,s3 _ _ (s2 _ _ u1),s3 _ _ c_,G.ok⟩ (s1.free (s2.free hf')) ha' (s1.free hc')
theorem dw_:FnScope ["frame","d","base","parts","weights","rows","at","size","row","weight","more","rest","figure","here"] ["frame","d"] (h_ ar_):=⟨rfl,rfl,rfl,by decide +kernel,rfl,by decide +kernel,by decide +kernel⟩
theorem lH_{f:Addr}{fd:FuncData}(F:Fun K "_law_sheet" "_law_sheet" ar_ f fd)(T:Txt mg):FnOk P w K mg base CX0 1 f fd ["frame","d"] gk_:=by
 refine F.ok dw_ (fun vs H Q E h=>?_) (fun cdv A outer s H vs Q E hr h=>?_)
 ·obtain⟨f,a,c,b,ps,ws,d,rfl,_⟩:=h;rfl
 ·obtain⟨f,a,c,b,ps,ws,d,rfl,G,k⟩:=h
  have nd:=dw_.nd
  have hu:=fE_ hr
  rw[py_]
  refine⟨_,(b_ (bf_ (pv 0) (fl_ rfl (n_ (j_ (i:=2) nd rfl (Or.inl rfl)) (n_ (j_ (i:=3) nd rfl (Or.inl rfl)) (n_ (j_ (i:=4) nd rfl (Or.inl rfl)) P_)))))
   (b_ (i_ (i:=5) nd rfl (Or.inl rfl) (s_ d_))
   (b_ (i_ (i:=6) nd rfl (Or.inl rfl) e_)
   (b_ (C_ PassesOwn.never rfl (J_ (pv 3)) (j_ (i:=7) nd rfl (Or.inl rfl))
    (b_ (i_ (i:=8) nd rfl (Or.inl rfl) oN_ (oD_ _ _ _ _))
    (b_ (C_ PassesOwn.never rfl (J_ (gy_ (aD_ bI_ (pv 4) (au_ (pv 6)) (au_ (m_ r_ (pv 6) (pv 7)))) (eo_ bR_ e_))) (j_ (i:=9) nd rfl (Or.inl rfl))
     (b_ (i_ (i:=10) nd rfl (Or.inl rfl) cD_)
     (b_ (C_ PassesOwn.never rfl (em_ (ixl (pv 8) (eo_ bR_ e_))) (j_ (i:=11) nd rfl (Or.inl rfl))
      (g_ (C_ PassesOwn.never rfl (y_ (by rfl) T.range (a_ (pv 2) d_)) (j_ (i:=12) nd rfl (Or.inl rfl))
       (b_ (i_ (i:=13) nd rfl (Or.inl rfl) (m_ r_ (pv 11) (m_ H_ (pv 12) (pv 9))))
       (g_ (ei_ hu (pv 10) (pv 13) (m_ r_ (cE_ hu (pv 10) (pv 13) e_ ⟨rfl,rfl,rfl,rfl⟩) (bL_ hu (ixl (pv 8) (eo_ bR_ e_)) (pv 11) (fun _ _=>rfl))) rfl))))))
     (eh_ (g_ (I_ (cX_ PySem.F.plainAttrs_list PySem.F.slot_list_append PySem.F.type_list_append T_ (pv 8) (a_ (pv 10) d_))))))))
    (b_ (I_ (cX_ PySem.F.plainAttrs_list PySem.F.slot_list_append PySem.F.type_list_append T_ (pv 5) (a_ (gy_ (pv 8) (eo_ bR_ e_)) d_)))
    (g_ (i_ (i:=6) nd rfl (Or.inl rfl) (m_ r_ (pv 6) (pv 7))))))))
   (g_ (q_ (s_ (a_ (pv 5) (a_ (o_ (cf_ rfl) (by rfl) T.min boot_min (a_ (pv 1) (a_ e_ d_))) (a_ lC_ (a_ (pv 0) d_))))))))))),?_⟩
  have ok:=G.ok
  have hsum:=ok.sum
  have b16:=ok.b16
  have b2:=ok.b2
  have l4:=ok.l4
  refine⟨_,rfl,f,_,rfl,SqT.of G.tp,rfl,_,_,rfl,_,_,rfl,_,_,rfl,rfl,?_⟩
  refine⟨sz (by decide),fun rl hrl=>?_⟩
  have s0:=f_ (o:=.lst []) hrl
  have u0:(upd H rl (.lst [])) rl=some (.lst (([]:List Addr).map V.ref)):=c_
  generalize upd H rl (.lst [])=H0 at s0 u0⊢
  refine⟨_,rfl,a,rfl,⟨_,SqL.of (s0 _ _ G.hp)⟩,Z_ (K:=K) (a:=a) (xs:=natV ps) (fun i σ H1=>∃(rs:List Addr) (tss:List (List Addr)) (v7 v8 v9 v10 v11 v12 v13:Option V),σ=[some (.ref f),some (.int d),some (.int b),some (.ref a),some (.ref c),some (.ref rl),some (.int (((ps.take i).sum:Nat):Int)),v7,v8,v9,v10,v11,v12,v13]/\Same H H1/\H1 rl=some (.lst (rs.map V.ref))/\rs.length=i/\tss.length=i/\(∀ra∈rs,ra≠rl)/\nk_ tss/\∀(j:Nat) (row:List Int) (ra:Addr) (ts:List Addr),(Ma.cuts ps ws)[j]?=some row->rs[j]?=some ra->tss[j]?=some ts->RowT H1 ra ts b row)
   ⟨[],[],none,none,none,none,none,none,none,rfl,s0,u0,rfl,rfl,fun ra h=>by simp at h,fun i j l m _ h=>by simp at h,fun j row ra ts _ h=>by simp at h⟩ (fun i σ H1 _ h=>by obtain⟨_,_,_,_,_,_,_,_,_,_,z,_⟩:=h;exact SqL.of (z _ _ G.hp)) ?_ ?_⟩
  ·rintro i x σ H1 hx ⟨rs,tss,v7,v8,v9,v10,v11,v12,v13,rfl,s1,hr1,rl1,tl1,nr1,ap1,rw1⟩
   obtain⟨p,hp,rfl⟩:=df_ hx
   have hp6:=ok.pr p (List.mem_of_getElem? hp)
   have hil:i<ps.length:=(List.getElem?_eq_some_iff.mp hp).1
   have hrow:=Ma.aF_ ps ws i p hp
   generalize hr0:(ws.drop (ps.take i).sum).take p=row at hrow
   have hrm:row∈Ma.cuts ps ws:=List.mem_of_getElem? hrow
   have hrw:∀y∈row,-9<=y/\y<=9:=fun y hy=>ok.wr y (Ma.bA_ hrm y hy)
   have hr6:=Ma.aS_ (fun p hp=>(ok.pr p hp).2) hrm
   have G1:=G.keep s1
   intro p0 hp0
   refine⟨c_,[(Sum.inl 0,.int 1)],rfl,by decide,?_⟩
   have s2:Same H1 (upd (upd H1 p0 (.dK [])) p0 (.dK (ak_ [] [(Sum.inl 0,V.int 1)]))):=B_ (f_ hp0) hp0
   have u2:(upd (upd H1 p0 (.dK [])) p0 (.dK (ak_ [] [(Sum.inl 0,V.int 1)]))) p0=some (.dK (intsD [(0,1)])):=c_
   generalize upd (upd H1 p0 (.dK [])) p0 (.dK (ak_ [] [(Sum.inl 0,V.int 1)]))=H2 at s2 u2⊢
   refine⟨sz (by simp),fun rwx hrw0=>?_⟩
   have s3:=f_ (o:=.lst [V.ref p0]) hrw0
   have u3:(upd H2 rwx (.lst [V.ref p0])) rwx=some (.lst (([p0]:List Addr).map V.ref)):=c_
   generalize upd H2 rwx (.lst [V.ref p0])=H3 at s3 u3⊢
   have nrw1:H1 rwx=none:=s2.free hrw0
   refine⟨_,rfl,_,rfl,_,rfl,_,rfl,_,rfl,_,_,rfl,rfl,_,rfl,c,_,rfl,SqL.of (s3 _ _ (s2 _ _ G1.hw)),fun q1 hq1=>?_⟩
   have ec:cutV (ws.map V.int) (some (((ps.take i).sum:Nat):Int)) (some ((((ps.take i).sum:Nat):Int)+(p:Int)))=row.map V.int:=by rw[gY_,<-hr0];simp
   rw[ec]
   have s4:=f_ (o:=.lst (row.map V.int)) hq1
   have u4:(upd H3 q1 (.lst (row.map V.int))) q1=_:=c_
   generalize upd H3 q1 (.lst (row.map V.int))=H4 at s4 u4⊢
   refine⟨_,rfl,rfl,q1,_,rfl,SqL.of u4,fun q2 hq2=>?_⟩
   have er:(row.map V.int).reverse=row.reverse.map V.int:=by simp
   rw[er]
   have s5:=f_ (o:=.lst (row.reverse.map V.int)) hq2
   have u5:(upd H4 q2 (.lst (row.reverse.map V.int))) q2=_:=c_
   generalize upd H4 q2 (.lst (row.reverse.map V.int))=H5 at s5 u5⊢
   have S35:=s4.trans s5
   have S15:Same H1 H5:=s2.trans (s3.trans S35)
   have rw5:=S35 _ _ u3
   have p05:=S35 _ _ (s3 _ _ u2)
   have nrq:q2≠rwx:=fun z=>by rw[z] at hq2;rw[s4 _ _ u3] at hq2;cases hq2
   refine⟨q2,rfl,⟨_,SqL.of u5⟩,Z_ (K:=K) (a:=q2) (xs:=row.reverse.map V.int) (fun j σ H6=>∃(ts:List Addr) (v9 v10 v11 v12 v13:Option V),σ=[some (.ref f),some (.int d),some (.int b),some (.ref a),some (.ref c),some (.ref rl),some (.int (((ps.take i).sum:Nat):Int)),some (.int p),some (.ref rwx),v9,v10,v11,v12,v13]/\Kp [rwx] H5 H6/\H6 rwx=some (.lst (ts.map V.ref))/\ts.length=j+1/\(∀t∈ts,H1 t=none)/\∀(m:Nat) (t:Addr),ts[m]?=some t->H6 t=some (.dK (intsD (Me.waysW b (row.reverse.take m)))))
    ⟨[p0],v9,v10,v11,v12,v13,rfl,Kp.refl,rw5,rfl,fun t ht=>by rw[List.mem_singleton.mp ht];exact hp0,fun m t e=>?_⟩ (fun j σ H6 _ h=>by obtain⟨_,_,_,_,_,_,_,z,_⟩:=h;exact SqL.of (z _ _ u5 (by simpa using nrq))) ?_ ?_⟩
   ·have hm:m=0:=by have:=(List.getElem?_eq_some_iff.mp e).1;simp at this;omega
    subst hm
    have e':p0=t:=by simpa using e
    subst e'
    exact p05
   ·rintro j x σ H6 hx ⟨ts,v9,v10,v11,v12,v13,rfl,k6,rw6,tl6,nt6,ds6⟩
    obtain⟨wt,hwt,rfl⟩:=kx_ hx
    have hj:j<row.reverse.length:=(List.getElem?_eq_some_iff.mp hwt).1
    have hj6:j<6:=by rw[List.length_reverse] at hj;omega
    have hw':=hrw wt (by have:=List.mem_of_getElem? hwt;simpa using this)
    obtain⟨t,ht⟩:∃t,ts[j]?=some t:=⟨_,List.getElem?_eq_getElem (by omega)⟩
    have td:=ds6 j t ht
    have okf:=Me.cH_ (b:=b) (ws:=row.reverse) (fun y hy=>hrw y (by simpa using hy)) b16 j
    have ew:=Me.cg_ (b:=b) hwt
    generalize hg:Me.waysW b (row.reverse.take j)=g at td okf ew
    intro l hl
    have ntl:t≠l:=k_ td hl
    have nrl:rwx≠l:=k_ rw6 hl
    have ntr:t≠rwx:=fun z=>by rw[z,rw6] at td;cases td
    have ea:=lf_ tl6 ht
    refine⟨_,rfl,_,rfl,rwx,_,_,_,rfl,rfl,SqL.of (by rw[l_ nrl];exact rw6),ea,t,intsD g,rfl,(by rw[l_ ntl];exact td),fun o=>eF_ (fun m σ H7=>∃v11 v12 v13,σ=[some (.ref f),some (.int d),some (.int b),some (.ref a),some (.ref c),some (.ref rl),some (.int (((ps.take i).sum:Nat):Int)),some (.int p),some (.ref rwx),some (.int wt),some (.ref l),v11,v12,v13]/\H7 t=some (.frz o (.dK (intsD g)))/\Kp [t] H6 H7/\H7 l=some (.dK (intsD (Me.S_ (g.take m) b wt))))
     ⟨v11,v12,v13,rfl,c_,aQ_ (aQ_ Kp.refl (.inr hl)) (.inl (by simp)),?_⟩ (fun m σ H7 _ h=>by obtain⟨_,_,_,_,z,_⟩:=h;exact z) ?_ ?_⟩
    ·rw[l_ ntl.symm,c_];rfl
    ·rintro m kk v σ H7 hk ⟨v11,v12,v13,rfl,ft,kp7,hl7⟩
     obtain⟨pr,hpr,rfl,rfl⟩:=eE_ hk
     have pm:=List.mem_of_getElem? hpr
     have pb:=okf.bd pr.1 (List.mem_map.mpr ⟨pr,pm,rfl⟩)
     have o0:=Me.aO_ okf hw' b16 m
     refine⟨_,rfl,_,rfl,by omega,by omega,D_ (n:=(b:Int).toNat) (fun e σ H8=>∃v12 v13,σ=[some (.ref f),some (.int d),some (.int b),some (.ref a),some (.ref c),some (.ref rl),some (.int (((ps.take i).sum:Nat):Int)),some (.int p),some (.ref rwx),some (.int wt),some (.ref l),some (.int pr.1),v12,v13]/\H8 t=some (.frz o (.dK (intsD g)))/\Kp [t] H6 H8/\H8 l=some (.dK (intsD (Me.figs pr wt e (Me.S_ (g.take m) b wt)))))
      ⟨v12,v13,rfl,ft,kp7,hl7⟩ ?_ ?_⟩
     ·rintro e σ H8 he ⟨v12,v13,rfl,ft8,kp8,hl8⟩
      have he':e<b:=by omega
      have od:=Me.eG_ pb hw' b16 o0 e (by omega)
      have hlen8:=Me.Ok.len (m:=135*j+135) (by push_cast at od⊢;exact od)
      have rw8:=kp8 _ _ rw6 (by simpa using ntr.symm)
      have dg:DGet H8 t (.int pr.1) (some (.int pr.2)):=by
       have z:=U_ (k:=pr.1) (.inr ⟨o,ft8⟩)
       rw[Me.am_ okf.nd pm] at z
       exact z
      refine⟨_,rfl,_,rfl,_,rfl,_,_,rfl,rfl,.inr ⟨by omega,by omega⟩,_,_,rfl,rfl,?_⟩
      refine⟨_,rfl,l,rfl,.inl ⟨_,.inl hl8⟩,_,rfl,_,U_ (.inl hl8),_,rfl,_,rfl,rwx,_,_,_,rfl,rfl,SqL.of rw8,ea,_,rfl,t,.int pr.2,rfl,dg,_,_,cF_ _,rfl,_,rfl,_,rfl,l,_,rfl,dh_ hl8 (by omega),?_⟩
      refine⟨_,_,rfl,?_,aQ_ kp8 (.inr hl),?_⟩
      ·rw[l_ ntl];exact ft8
      ·rw[c_,Me.aR_]
       have e0:(0:Int)+(e:Int)=(e:Int):=Int.zero_add _
       rw[e0]
       rfl
     ·rintro σ H8 ⟨v12,v13,rfl,ft8,kp8,hl8⟩
      refine⟨_,_,_,rfl,ft8,kp8,?_⟩
      have eb:(b:Int).toNat=b:=by omega
      rw[eb] at hl8
      rw[Me.bm_ hpr]
      exact hl8
    ·rintro σ H7 ⟨v11,v12,v13,rfl,ft,kp7,hl7⟩
     have el:(intsD g).length=g.length:=by rw[intsD,List.length_map]
     rw[el,List.take_length,<-ew] at hl7
     refine⟨t,o,intsD g,ft,(fun o' u z=>by
      have z':H t=some (.frz o' u):=z
      have:=s1 _ _ z'
      rw[nt6 t (List.mem_of_getElem? ht)] at this
      cases this),?_⟩
     have k8:Kp [rwx] H6 (upd H7 t (.dK (intsD g))):=fun y ob e n=>by
      by_cases hy:y=t
      ·rw[hy,c_,<-td,<-hy];exact e
      ·rw[l_ hy];exact kp7 y ob e (by simpa using hy)
     have k8':Same H6 (upd H7 t (.dK (intsD g))):=fun y ob e=>by
      by_cases hy:y=t
      ·rw[hy,c_,<-td,<-hy];exact e
      ·rw[l_ hy];exact kp7 y ob e (by simpa using hy)
     have l8:(upd H7 t (.dK (intsD g))) l=some (.dK (intsD (Me.waysW b (row.reverse.take (j+1))))):=by rw[l_ ntl.symm];exact hl7
     generalize upd H7 t (.dK (intsD g))=H8 at k8 k8' l8⊢
     have rw8:=k8' _ _ rw6
     refine⟨_,rfl,.inl ⟨rfl,_,SqL.of rw8⟩,_,rfl,rwx,_,_,rfl,rfl,rw8,szl (by rw[List.length_map];omega),ts++[l],_,_,_,_,_,rfl,?_,?_,by simp[tl6],?_,?_⟩
     ·exact aQ_ (k6.trans (Kp.of k8')) (.inl (by simp))
     ·rw[c_,List.map_append];rfl
     ·intro t' ht'
      rcases List.mem_append.mp ht' with h | h
      ·exact nt6 t' h
      ·rw[List.mem_singleton.mp h]
       have h5:H5 l=none:=k6.free hl (by simpa using nrl.symm)
       exact S15.free h5
     ·intro m t' e
      by_cases hm:m<ts.length
      ·rw[List.getElem?_append_left hm] at e
       have:=k8' _ _ (ds6 m t' e)
       rw[l_ (fun z=>by rw[z,rw8] at this;cases this)]
       exact this
      ·have hm':m=j+1:=by
        have:=(List.getElem?_eq_some_iff.mp e).1
        simp at this
        omega
       subst hm'
       rw[List.getElem?_append_right (by omega),tl6,Nat.sub_self] at e
       have e':l=t':=by simpa using e
       subst e'
       rw[l_ nrl.symm]
       exact l8
   ·rintro σ H6 ⟨ts,v9,v10,v11,v12,v13,rfl,k6,rw6,tl6,nt6,ds6⟩
    have hrl':row.length=p:=by
     have h1:=Me.fM_ ps ws ok.wl
     have h2:((Ma.cuts ps ws).map List.length)[i]?=some row.length:=by rw[List.getElem?_map,hrow];rfl
     rw[h1,hp] at h2
     exact(Option.some.inj h2).symm
    rw[List.length_map,List.length_reverse] at tl6
    have nrr:rl≠rwx:=fun z=>by rw[<-z,hr1] at nrw1;cases nrw1
    have rl6:H6 rl=some (.lst (rs.map V.ref)):=k6 _ _ (S15 _ _ hr1) (by simpa using nrr)
    have S16:Same H1 H6:=fun y ob e=>k6 y ob (S15 y ob e) (by
     have:y≠rwx:=k_ e nrw1
     simpa using this)
    refine⟨_,rfl,.inl ⟨rfl,_,SqL.of rl6⟩,_,rfl,_,rfl,rfl,rwx,_,rfl,SqL.of rw6,fun q hq=>?_⟩
    have s7:=f_ (o:=.lst (ts.map V.ref).reverse) hq
    have u7:(upd H6 q (.lst (ts.map V.ref).reverse)) q=some (.lst (ts.reverse.map V.ref)):=by rw[c_,List.map_reverse]
    generalize upd H6 q (.lst (ts.map V.ref).reverse)=H7 at s7 u7⊢
    have rl7:=s7 _ _ rl6
    have nql:q≠rl:=fun z=>by rw[z,rl6] at hq;cases hq
    refine⟨rl,_,_,rfl,rfl,rl7,szl (by rw[List.length_map];omega),?_⟩
    refine⟨_,rfl,_,rfl,_,_,rfl,rfl,rs++[q],tss++[ts.reverse],some (.int (p:Int)),some (.ref rwx),v9,v10,v11,v12,v13,?_,?_,?_,by simp[rl1],by simp[tl1],?_,?_,?_⟩
    ·rw[show(((ps.take (i+1)).sum:Nat):Int)=(((ps.take i).sum:Nat):Int)+(p:Int) by rw[List.take_add_one,hp,List.sum_append];simp]
     rfl
    ·intro y ob e
     have:y≠rl:=k_ e hrl
     rw[l_ this]
     exact s7 _ _ (S16 _ _ (s1 _ _ e))
    ·rw[c_,List.map_append];rfl
    ·intro ra hra
     rcases List.mem_append.mp hra with h | h
     ·exact nr1 ra h
     ·rw[List.mem_singleton.mp h];exact nql
    ·intro m n l1 l2 hmn h1 h2 t' ht1 ht2
     have old:∀(m':Nat) (l':List Addr),tss[m']?=some l'->∀t∈l',∃ob,H1 t=some ob:=fun m' l' hl' t ht=>by
      have hm':m'<i:=by have:=(List.getElem?_eq_some_iff.mp hl').1;omega
      obtain⟨ra,hra⟩:∃ra,rs[m']?=some ra:=⟨_,List.getElem?_eq_getElem (by omega)⟩
      obtain⟨row',hrow'⟩:∃row',(Ma.cuts ps ws)[m']?=some row':=⟨_,List.getElem?_eq_getElem (by rw[Ma.ah_];omega)⟩
      obtain⟨k',hk'⟩:=List.getElem?_of_mem ht
      obtain⟨g,hg,_⟩:=(rw1 m' row' ra l' hrow' hra hl').2.2 k' t hk'
      exact⟨_,hg⟩
     have new:∀t∈ts.reverse,H1 t=none:=fun t ht=>nt6 t (by simpa using ht)
     by_cases c1:m<tss.length
     ·rw[List.getElem?_append_left c1] at h1
      by_cases c2:n<tss.length
      ·rw[List.getElem?_append_left c2] at h2
       exact ap1 m n l1 l2 hmn h1 h2 t' ht1 ht2
      ·rw[List.getElem?_append_right (by omega)] at h2
       have e2:n-tss.length=0:=by have:=(List.getElem?_eq_some_iff.mp h2).1;simp at this;omega
       rw[e2] at h2
       have e3:ts.reverse=l2:=by simpa using h2
       subst e3
       obtain⟨ob,hob⟩:=old m l1 h1 t' ht1
       rw[new t' ht2] at hob
       cases hob
     ·rw[List.getElem?_append_right (by omega)] at h1
      have e1:m-tss.length=0:=by have:=(List.getElem?_eq_some_iff.mp h1).1;simp at this;omega
      rw[e1] at h1
      have e3:ts.reverse=l1:=by simpa using h1
      subst e3
      by_cases c2:n<tss.length
      ·rw[List.getElem?_append_left c2] at h2
       obtain⟨ob,hob⟩:=old n l2 h2 t' ht2
       rw[new t' ht1] at hob
       cases hob
      ·rw[List.getElem?_append_right (by omega)] at h2
       have:=(List.getElem?_eq_some_iff.mp h2).1
       simp at this
       omega
    ·intro m row' ra ts' h1 h2 h3
     by_cases c1:m<rs.length
     ·rw[List.getElem?_append_left c1] at h2
      rw[List.getElem?_append_left (by omega)] at h3
      have R:=rw1 m row' ra ts' h1 h2 h3
      have nra:ra≠rl:=nr1 ra (List.mem_of_getElem? h2)
      refine⟨by rw[l_ nra];exact s7 _ _ (S16 _ _ R.1),R.2.1,fun k' t e=>?_⟩
      obtain⟨g,hg,hg2⟩:=R.2.2 k' t e
      have hg7:=s7 _ _ (S16 _ _ hg)
      exact⟨g,by rw[l_ (fun z=>by rw[z,rl7] at hg7;cases hg7)];exact hg7,hg2⟩
     ·rw[List.getElem?_append_right (by omega)] at h2
      have e2:m-rs.length=0:=by have:=(List.getElem?_eq_some_iff.mp h2).1;simp at this;omega
      rw[e2] at h2
      have e3:q=ra:=by simpa using h2
      subst e3
      have em:m=i:=by omega
      subst em
      rw[hrow] at h1
      cases h1
      rw[List.getElem?_append_right (by omega),show m-tss.length=0 by omega] at h3
      have e4:ts.reverse=ts':=by simpa using h3
      subst e4
      refine⟨by rw[l_ nql];exact u7,by rw[List.length_reverse];exact tl6,fun k' t e=>?_⟩
      have hk':k'<ts.length:=by have:=(List.getElem?_eq_some_iff.mp e).1;rw[List.length_reverse] at this;exact this
      rw[List.getElem?_reverse hk'] at e
      have dt:=s7 _ _ (ds6 _ t e)
      have ek:row.reverse.take (ts.length-1-k')=(row.drop k').reverse:=by
       rw[List.reverse_drop]
       congr 1
       omega
      rw[ek] at dt
      have okw:=Me.hh_ (b:=b) (ws:=(row.drop k').reverse) (fun y hy=>hrw y (List.mem_of_mem_drop (by simpa using hy))) b16
      refine⟨_,by rw[l_ (fun z=>by rw[z,rl7] at dt;cases dt)];exact dt,?_,fun q hq=>?_,fun F=>Mx.tg_rev b (row.drop k') F⟩
      ·rw[List.length_reverse] at okw
       exact okw
      ·have h1:=Me.lm_ (b:=b) (ws:=(row.drop k').reverse) b16 (by rw[List.length_reverse,List.length_drop];omega) q.1
       rw[Me.am_ okw.nd hq] at h1
       exact h1
  ·rintro σ H1 ⟨rs,tss,v7,v8,v9,v10,v11,v12,v13,rfl,s1,hr1,rl1,tl1,nr1,ap1,rw1⟩
   have el:(natV ps).length=ps.length:=by simp[natV]
   rw[el] at rl1 tl1
   refine⟨_,rfl,_,rfl,d,4000,rfl,fun kn hkn=>⟨_,rfl,sz (by simp),fun sh hsh=>?_⟩⟩
   have ed:(if (4000:Int)<(d:Int) then (4000:Int) else (d:Int))=((min d 4000:Nat):Int):=by split <;> omega
   rw[ed] at *
   have s2:=f_ (o:=.dT []) hkn
   have u2:(upd H1 kn (.dT [])) kn=_:=c_
   generalize upd H1 kn (.dT [])=H2 at s2 u2 hsh⊢
   have s3:=f_ (o:=.lst [.ref rl,.int ((min d 4000:Nat):Int),.ref kn,.ref f]) hsh
   have S:=s2.trans s3
   exact k sh rl kn rs tss _ (s1.trans S) ⟨c_,(G.keep s1).keep S,S _ _ hr1,rl1,tl1,fun j row ra ts _ h1 h2 h3=>(rw1 j row ra ts h1 h2 h3).keepW fun x o e _=>S x o e,ap1,⟨[],s3 _ _ u2,KnOk.nil⟩⟩ (s1.free hkn)
end
end Hv
namespace Mx
open Me Mg Mu
theorem mu_{g:List (Int×Int)}(nd:(keys g).Nodup)(φ:Int->Int)(A:Int):∀n:Nat,tg g (fun x=>if A<=x/\x<A+n then φ x else 0)=Mq.sm (fun t=>gv g t*φ t) A n
 | 0=>by
  have e:∀x:Int,(if A<=x/\x<A+((0:Nat):Int) then φ x else 0)=0:=fun x=>if_neg (by lia)
  rw[G_ e,hp_,Int.mul_zero]
  rfl
 | n+1=>by
  have e:∀x:Int,(if A<=x/\x<A+((n+1:Nat):Int) then φ x else 0)=(if A<=x/\x<A+(n:Int) then φ x else 0)+φ (A+n)*(if x=A+n then 1 else 0):=fun x=>by
   by_cases h1:x=A+n
   ·subst h1
    rw[if_pos (by lia),if_neg (by lia),if_pos rfl]
    lia
   ·rw[if_neg h1,Int.mul_zero,Int.add_zero]
    by_cases h2:A<=x/\x<A+(n:Int)
    ·rw[if_pos h2,if_pos (by lia)]
    ·rw[if_neg h2,if_neg (by lia)]
  rw[G_ e,gf_,eS_,cw_ nd,mu_ nd φ A n,Int.mul_comm]
  rfl
theorem js_(f:Int->Int)(A:Int):∀n:Nat,(((List.range n).map fun(i:Nat)=>A+(i:Int)).map f).sum=Mq.sm f A n
 | 0=>rfl
 | n+1=>by
  rw[List.range_succ,List.map_append,List.map_append,List.sum_append,js_ f A n]
  simp[Mq.sm]
def term(b d:Nat)(g:List (Int×Int))(rows:List (List Int))(here low high x:Int):Int:=gv g x*(if high-d<=here+x/\here+x<=low+d then frC b d rows (mn low (here+x)) (mx high (here+x)) else 0)
theorem term_keys{b d:Nat}{g:List (Int×Int)}(nd:(keys g).Nodup)(rows:List (List Int))(here low high:Int):((keys g).map (term b d g rows here low high)).sum=tg g fun x=>if high-d<=here+x/\here+x<=low+d then frC b d rows (mn low (here+x)) (mx high (here+x)) else 0:=by
 unfold keys tg
 rw[List.map_map]
 congr 1
 refine List.map_congr_left fun q hq=>?_
 show term b d g rows here low high q.1=_
 unfold term gv
 rw[am_ nd hq]
 rfl
theorem term_range{b d:Nat}{g:List (Int×Int)}(nd:(keys g).Nodup)(rows:List (List Int))(here low high:Int)(h:high-low<=d)(hl:low<=high) :
  (((List.range (low+d-here+1-(high-d-here)).toNat).map fun(i:Nat)=>(high-d-here)+(i:Int)).map (term b d g rows here low high)).sum=tg g fun x=>if high-d<=here+x/\here+x<=low+d then frC b d rows (mn low (here+x)) (mx high (here+x)) else 0:=by
 rw[js_]
 have e:∀x,(if high-(d:Int)<=here+x/\here+x<=low+(d:Int) then frC b d rows (mn low (here+x)) (mx high (here+x)) else 0)=if (high-(d:Int)-here)<=x/\x<(high-(d:Int)-here)+((low+(d:Int)-here+1-(high-(d:Int)-here)).toNat:Int) then frC b d rows (mn low (here+x)) (mx high (here+x)) else 0:=fun x=>by
  by_cases z:high-(d:Int)<=here+x/\here+x<=low+(d:Int)
  ·rw[if_pos z,if_pos (by lia)]
  ·rw[if_neg z,if_neg (by lia)]
 rw[G_ e,mu_ nd]
 refine Mq.bu_ fun t h1 h2=>?_
 unfold term
 rw[if_pos (by lia)]
def fromV(b d:Nat)(row:List Int)(rows:List (List Int))(here:Int):Option (Int×Int)->Int
 | none=>fromN b d row rows here
 | some lh=>fromW b d row rows here lh.1 lh.2
end Mx
namespace Hv
open PySem L2
theorem jM_{κ:Type}[DecidableEq κ]{kvs:List (κ×V)}{k:κ}{v:V}(h:∀kv∈kvs,kv.1=k->kv.2=v)(hs:(valV kvs k).isSome=true):putK kvs k v=kvs:=by
 unfold putK
 rw[if_pos (by rw[aW_];exact hs)]
 conv=>rhs;rw[<-List.map_id kvs]
 refine List.map_congr_left fun kv hkv=>?_
 by_cases e:kv.1=k
 ·rw[if_pos e]
  have:=h kv hkv e
  rw[<-this]
  rfl
 ·rw[if_neg e]
  rfl
theorem KnOk.put2{b d:Nat}{ps:List Nat}{ws:List Int}{kvs:List (List Key×V)}(h:KnOk b d ps ws kvs){i:Nat}{low high:Int}(hi:i<4)(hl : -810<=low/\low<=810)(hh : -810<=high/\high<=810) :
  KnOk b d ps ws (putK kvs [.inl (i:Int),.inl low,.inl high] (.int (Mx.frC b d ((Ma.cuts ps ws).drop i) low high))):=by
 cases e:valV kvs [.inl (i:Int),.inl low,.inl high] with
 | none=>exact h.put hi hl hh e
 | some v =>
  rw[jM_ (fun kv hkv ek=>?_) (by rw[e];rfl)]
  ·exact h
  ·obtain⟨j,lo,hi',e1,_,_,_,e2⟩:=h.2 kv hkv
   rw[ek] at e1
   have a1:(i:Int)=(j:Int):=by injection e1 with z _;injection z
   have a2:low=lo:=by injection e1 with _ z;injection z with z _;injection z
   have a3:high=hi':=by injection e1 with _ z;injection z with _ z;injection z with z _;injection z
   have a4:i=j:=by lia
   subst a4 a2 a3
   exact e2
def loV:Option (Int×Int)->V
 | none=>.non
 | some p=>.int p.1
def hiV:Option (Int×Int)->V
 | none=>.non
 | some p=>.int p.2
def LH(d:Nat)(low high:Int):Prop:=(-810<=low/\low<=high/\high<=810)/\high-low<=d
def cN_(r:Nat):Sp:=fun vs H Q _=>∃(k0:Nat) (sh rl kn f a c:Addr) (rs:List Addr) (tss:List (List Addr)) (b d:Nat) (ps:List Nat) (ws:List Int) (low high:Int),vs=[.ref sh,.int (k0:Int),.int low,.int high]/\ShAt H k0 sh rl kn f a c rs tss b d ps ws/\1<=k0/\k0+r=ps.length/\LH d low high/\d<=4000/\
 ∀H',(∃kvs,H' kn=some (.dT kvs)/\KnOk b d ps ws kvs)->Kp [kn] H H'->Q (.int (Mx.frC b d ((Ma.cuts ps ws).drop k0) low high)) H'
def be_(r:Nat):Sp:=fun vs H Q _=>∃(k0:Nat) (sh rl kn f a c:Addr) (rs:List Addr) (tss:List (List Addr)) (b d:Nat) (ps:List Nat) (ws:List Int) (sp:Addr) (told:Nat) (here:Int) (row:List Int) (lh:Option (Int×Int)),vs=[.ref sh,.ref sp,loV lh,hiV lh]/\ShAt H k0 sh rl kn f a c rs tss b d ps ws/\H sp=some (.lst [.int (k0:Int),.int (told:Int),.int here])/\k0+(r+1)=ps.length/\
 (Ma.cuts ps ws)[k0]?=some row/\told<=row.length/\(-(135*(told:Int))<=here/\here<=135*(told:Int))/\d<=4000/\(∀p,lh=some p->LH d p.1 p.2)/\∀H',(∃kvs,H' kn=some (.dT kvs)/\KnOk b d ps ws kvs)->Kp [kn] H H'->Q (.int (Mx.fromV b d (row.drop told) ((Ma.cuts ps ws).drop (k0+1)) here lh)) H'
theorem ShAt.frz{H H':Hp}{k0:Nat}{sh rl kn f a c t:Addr}{rs:List Addr}{tss:List (List Addr)}{b d:Nat}{ps:List Nat}{ws:List Int}{ts:List Addr}{g:List (Int×Int)}(S:ShAt H k0 sh rl kn f a c rs tss b d ps ws)(ht:H t=some (.dK (intsD g)))(hts:tss[k0]?=some ts)(hm:t∈ts)(k:Kp [t,kn] H H')(h:∃kvs,H' kn=some (.dT kvs)/\KnOk b d ps ws kvs):ShAt H' (k0+1) sh rl kn f a c rs tss b d ps ws:=by
 obtain⟨kvs0,e0,_⟩:=S.kn
 have k':∀x o,H x=some o->(∀kvs,o≠.dT kvs)->x≠t->H' x=some o:=fun x o e n nt=>k x o e (fun z=>by
  rcases List.mem_cons.mp z with z | z
  ·exact nt z
  ·have z':x=kn:=by simpa using z
   rw[z',e0] at e
   exact n _ (Option.some.inj e).symm)
 have k2:∀x o,H x=some o->(∀kvs,o≠.dT kvs)->(∀kvs,o≠.dK kvs)->H' x=some o:=fun x o e n n2=>k' x o e n (fun z=>by
  rw[z,ht] at e
  exact n2 _ (Option.some.inj e).symm)
 refine⟨k2 _ _ S.hs (fun _ z=>nomatch z) (fun _ z=>nomatch z),⟨k2 _ _ S.fr.tp (fun _ z=>nomatch z) (fun _ z=>nomatch z),k2 _ _ S.fr.hp (fun _ z=>nomatch z) (fun _ z=>nomatch z),k2 _ _ S.fr.hw (fun _ z=>nomatch z) (fun _ z=>nomatch z),S.fr.ok⟩,k2 _ _ S.hr (fun _ z=>nomatch z) (fun _ z=>nomatch z),S.ln,S.lt,fun i row ra ts' h1 h2 h3 h4=>?_,S.ap,h⟩
 obtain⟨r1,r2,r3⟩:=S.rw i row ra ts' (by lia) h2 h3 h4
 refine⟨k2 _ _ r1 (fun _ z=>nomatch z) (fun _ z=>nomatch z),r2,fun j t' e=>?_⟩
 obtain⟨g',h5,h6⟩:=r3 j t' e
 exact⟨g',k' _ _ h5 (fun _ z=>nomatch z) (fun z=>by
  subst z
  exact S.ap k0 i ts ts' (by lia) hts h4 t' hm (List.mem_of_getElem? e)),h6⟩
section
variable{P:Program}{w:World}{K:PySem.W.Frag}{mg:Str->Option Value}{base:Heap}
theorem bT_:FnScope ["sheet","part","low","high","rows","d","known","frame"] ["sheet","part","low","high"] (h_ cA_):=⟨rfl,rfl,rfl,by decide +kernel,rfl,by decide +kernel,by decide +kernel⟩
theorem lK_{f:Addr}{fd:FuncData}(F:Fun K "_law_free" "_law_free" cA_ f fd)(T:Txt mg):FnOk P w K mg base CX0 1 f fd ["sheet","part","low","high"] (cN_ 0):=by
 refine F.ok bT_ (fun vs H Q E h=>?_) (fun cdv A outer s H vs Q E hr h=>?_)
 ·obtain⟨k0,sh,rl,kn,f,a,c,rs,tss,b,d,ps,ws,low,high,rfl,_⟩:=h;rfl
 ·obtain⟨k0,sh,rl,kn,f,a,c,rs,tss,b,d,ps,ws,low,high,rfl,S,k1,kr,lh,hd,k⟩:=h
  have nd:=bT_.nd
  have hu:=fE_ hr
  refine⟨_,(b_ (bf_ (pv 0) (bX_ rfl (n_ (j_ (i:=4) nd rfl (Or.inl rfl)) (n_ (j_ (i:=5) nd rfl (Or.inl rfl)) (n_ (j_ (i:=6) nd rfl (Or.inl rfl)) (n_ (j_ (i:=7) nd rfl (Or.inl rfl)) P_))))))
   (b_ (W_ (z_ cl_ (pv 1) (lenS T.len (by rfl) (pv 4)) (nomark _)) (g_ (q_ e_)) w_)
   aM_)),?_⟩
  refine⟨_,rfl,sh,_,rfl,SqL.of S.hs,rfl,_,_,rfl,_,_,rfl,_,_,rfl,_,_,rfl,rfl,?_⟩
  refine⟨_,rfl,_,rfl,rl,_,rfl,.inl (SqL.of S.hr),rfl,_,rfl,?_⟩
  have hl:(rs.map V.ref).length=k0:=by rw[List.length_map,S.ln];lia
  rw[hl,decide_eq_true rfl]
  refine iteT ?_
  have e:(Ma.cuts ps ws).drop k0=[]:=List.drop_eq_nil_of_le (by rw[Ma.ah_];lia)
  have:=k H S.kn Kp.refl
  rw[e] at this
  exact this
theorem gH_{r lv:Nat}{f:Addr}{fd:FuncData}(F:Fun K "_law_free" "_law_free" cA_ f fd)(T:Txt mg)(d_law_from:Def P w K mg base lv "_law_from" ["sheet","spot","low","high"] (be_ r)):FnOk P w K mg base CX0 (lv+1) f fd ["sheet","part","low","high"] (cN_ (r+1)):=by
 refine F.ok bT_ (fun vs H Q E h=>?_) (fun cdv A outer s H vs Q E hr h=>?_)
 ·obtain⟨k0,sh,rl,kn,f,a,c,rs,tss,b,d,ps,ws,low,high,rfl,_⟩:=h;rfl
 ·obtain⟨k0,sh,rl,kn,f,a,c,rs,tss,b,d,ps,ws,low,high,rfl,S,k1,kr,lh,hd,k⟩:=h
  have nd:=bT_.nd
  have hu:=fE_ hr
  refine⟨_,(b_ (bf_ (pv 0) (bX_ rfl (n_ (j_ (i:=4) nd rfl (Or.inl rfl)) (n_ (j_ (i:=5) nd rfl (Or.inl rfl)) (n_ (j_ (i:=6) nd rfl (Or.inl rfl)) (n_ (j_ (i:=7) nd rfl (Or.inl rfl)) P_))))))
   (b_ (W_ (z_ cl_ (pv 1) (lenS T.len (by rfl) (pv 4)) (nomark _)) (g_ (q_ e_)) w_)
   (b_ (W_ (mF_ (jW_ hu (bD_ (a_ (pv 1) (a_ (pv 2) (a_ (pv 3) d_)))) (pv 6))) (g_ (ei_ hu (pv 6) (bD_ (a_ (pv 1) (a_ (pv 2) (a_ (pv 3) d_)))) (p_ d_law_from hr (by rfl) (a_ (pv 0) (a_ (s_ (a_ (pv 1) (a_ e_ (a_ e_ d_)))) (a_ (pv 2) (a_ (pv 3) d_))))) rfl)) w_)
   (g_ (q_ (bL_ hu (pv 6) (bD_ (a_ (pv 1) (a_ (pv 2) (a_ (pv 3) d_)))) (fun _ _=>rfl))))))),?_⟩
  have l4:=S.fr.ok.l4
  have hlh:=lh.1
  refine⟨_,rfl,sh,_,rfl,SqL.of S.hs,rfl,_,_,rfl,_,_,rfl,_,_,rfl,_,_,rfl,rfl,?_⟩
  refine⟨_,rfl,_,rfl,rl,_,rfl,.inl (SqL.of S.hr),rfl,_,rfl,?_⟩
  have hl:(rs.map V.ref).length=ps.length:=by rw[List.length_map,S.ln]
  rw[hl,decide_eq_false (fun z=>by injection z with z;lia)]
  refine iteF ⟨_,rfl,_,rfl,_,rfl,sz (by simp),fun t1 ht1=>?_⟩
  have s1:=f_ (o:=.tup [.int (k0:Int),.int low,.int high]) ht1
  have u1:(upd H t1 (.tup [.int (k0:Int),.int low,.int high])) t1=some (.tup (([.inl (k0:Int),.inl low,.inl high]:List Key).map kV)):=c_
  generalize upd H t1 (.tup [.int (k0:Int),.int low,.int high])=H1 at s1 u1⊢
  have S1:=S.keep s1
  obtain⟨kvs,ek,kok⟩:=S1.kn
  refine⟨_,rfl,kn,_,rfl,DGet.t ek u1,_,rfl,?_⟩
  have key:∀kvs,KnOk b d ps ws kvs->∀v,valV kvs [.inl (k0:Int),.inl low,.inl high]=some v->v=.int (Mx.frC b d ((Ma.cuts ps ws).drop k0) low high):=fun kvs h v e=>h.get e
  refine lX_ (fun σ H'=>σ=[some (.ref sh),some (.int (k0:Int)),some (.int low),some (.int high),some (.ref rl),some (.int d),some (.ref kn),some (.ref f)]/\Kp [kn] H H'/\∃kvs,H' kn=some (.dT kvs)/\KnOk b d ps ws kvs/\valV kvs [.inl (k0:Int),.inl low,.inl high]=some (.int (Mx.frC b d ((Ma.cuts ps ws).drop k0) low high))) ?tail (fun hc hT=>?thn) (fun hc=>?els)
  case els =>
   refine⟨rfl,Kp.of s1,kvs,ek,kok,?_⟩
   cases e:valV kvs [.inl (k0:Int),.inl low,.inl high] with
   | none=>rw[e] at hc;exact absurd rfl hc
   | some v=>rw[key kvs kok v e]
  case thn =>
   obtain⟨row,hrow⟩:∃row,(Ma.cuts ps ws)[k0]?=some row:=⟨_,List.getElem?_eq_getElem (by rw[Ma.ah_];lia)⟩
   refine⟨_,rfl,_,rfl,sz (by simp),fun sp hsp=>?_⟩
   have s2:=f_ (o:=.lst [.int (k0:Int),.int 0,.int 0]) hsp
   have u2:(upd H1 sp (.lst [.int (k0:Int),.int 0,.int 0])) sp=_:=c_
   generalize upd H1 sp (.lst [.int (k0:Int),.int 0,.int 0])=H2 at s2 u2⊢
   have S2:=S1.keep s2
   refine⟨_,rfl,_,rfl,k0,sh,rl,kn,f,a,c,rs,tss,b,d,ps,ws,sp,0,0,row,some (low,high),rfl,S2,u2,kr,hrow,Nat.zero_le _,⟨by decide,by decide⟩,hd,fun p hp=>by cases hp;exact lh,fun H3 kn3 k3=>?_⟩
   obtain⟨kvs3,ek3,kok3⟩:=kn3
   refine⟨_,rfl,_,rfl,_,rfl,_,rfl,sz (by simp),fun t2 ht2=>?_⟩
   have s4:=f_ (o:=.tup [.int (k0:Int),.int low,.int high]) ht2
   have u4:(upd H3 t2 (.tup [.int (k0:Int),.int low,.int high])) t2=some (.tup (([.inl (k0:Int),.inl low,.inl high]:List Key).map kV)):=c_
   generalize upd H3 t2 (.tup [.int (k0:Int),.int low,.int high])=H4 at s4 u4⊢
   have ev:Mx.fromV b d (row.drop 0) ((Ma.cuts ps ws).drop (k0+1)) 0 (some (low,high))=Mx.frC b d ((Ma.cuts ps ws).drop k0) low high:=by
    show Mx.fromW b d (row.drop 0) ((Ma.cuts ps ws).drop (k0+1)) 0 low high=_
    rw[List.drop_zero,<-Mx.frC_from]
    congr 1
    exact(List.drop_eq_getElem_cons (by rw[Ma.ah_];lia)).trans (by rw[(List.getElem?_eq_some_iff.mp hrow).2]) |>.symm
   rw[ev]
   refine⟨kn,_,rfl,DPut.t (s4 _ _ ek3) u4 kok3.len,hT _ _ ⟨rfl,?_,_,c_,kok3.put2 (by lia) (by lia) (by lia),?_⟩⟩
   ·exact aQ_ (((Kp.of (s1.trans s2)).trans k3).same s4) (.inl (by simp))
   ·rw[ln_,if_pos rfl]
  rintro σ H5 ⟨rfl,k5,kvs5,ek5,kok5,ev5⟩
  refine⟨_,rfl,_,rfl,_,rfl,_,rfl,sz (by simp),fun t3 ht3=>?_⟩
  have s6:=f_ (o:=.tup [.int (k0:Int),.int low,.int high]) ht3
  have u6:(upd H5 t3 (.tup [.int (k0:Int),.int low,.int high])) t3=some (.tup (([.inl (k0:Int),.inl low,.inl high]:List Key).map kV)):=c_
  refine⟨kn,.int (Mx.frC b d ((Ma.cuts ps ws).drop k0) low high),rfl,?_,k _ ⟨kvs5,s6 _ _ ek5,kok5⟩ (k5.same s6)⟩
  rw[<-ev5]
  exact DGet.t (s6 _ _ ek5) u6
end
theorem oe_{lh:Option (Int×Int)}:decide (loV lh=.non)=lh.isNone:=by
 cases lh with
 | none=>rfl
 | some p=>rfl
section
variable{P:Program}{w:World}{K:PySem.W.Frag}{mg:Str->Option Value}{base:Heap}
theorem fd_:FnScope ["sheet","spot","low","high","rows","d","known","frame","part","told","here","rests","some","total","rest","whole","ends"] ["sheet","spot","low","high"] (h_ cz_):=⟨rfl,rfl,rfl,by decide +kernel,rfl,by decide +kernel,by decide +kernel⟩
theorem bn_{r lv:Nat}{f:Addr}{fd:FuncData}(F:Fun K "_law_from" "_law_from" cz_ f fd)(T:Txt mg)(d_law_free:Def P w K mg base lv "_law_free" ["sheet","part","low","high"] (cN_ r)):FnOk P w K mg base CX0 (lv+1) f fd ["sheet","spot","low","high"] (be_ r):=by
 refine F.ok fd_ (fun vs H Q E h=>?_) (fun cdv A outer s H vs Q E hr h=>?_)
 ·obtain⟨k0,sh,rl,kn,f,a,c,rs,tss,b,d,ps,ws,sp,told,here,row,lh,rfl,_⟩:=h;rfl
 ·obtain⟨k0,sh,rl,kn,f,a,c,rs,tss,b,d,ps,ws,sp,told,here,row,lh,rfl,S,hsp,kr,hrow,htl,hhe,hd,hlh,k⟩:=h
  have nd:=fd_.nd
  have hu:=fE_ hr
  refine⟨_,(b_ (bf_ (pv 0) (bX_ rfl (n_ (j_ (i:=4) nd rfl (Or.inl rfl)) (n_ (j_ (i:=5) nd rfl (Or.inl rfl)) (n_ (j_ (i:=6) nd rfl (Or.inl rfl)) (n_ (j_ (i:=7) nd rfl (Or.inl rfl)) P_))))))
   (b_ (bf_ (pv 1) (bX_ rfl (n_ (j_ (i:=8) nd rfl (Or.inr rfl)) (n_ (j_ (i:=9) nd rfl (Or.inl rfl)) (n_ (j_ (i:=10) nd rfl (Or.inr rfl)) P_)))))
   (b_ (i_ (i:=11) nd rfl (Or.inr rfl) (ixl (ixl (pv 4) (pv 8)) (pv 9)))
   (b_ (W_ (z_ mK_ (pv 2) ad_ (nomark _)) (g_ (q_ (nF_ (o_ (bo_ rfl) (by rfl) T.sum boot_sum (a_ (aZ_ (h_ cz_) ["sheet","spot","low","high","rows","d","known","frame","part","told","here","rests","some","total","rest","whole","ends"] ["rests","sheet","part","here"] [11,0,8,10] rfl (em_ (pv 11)) (fun cl C s H fp=>av_) (fun cl C s H fp=>(m_ H_ (bL_ hu (pv 1) (pv 0) (fun _ _=>rfl)) (p_ d_law_free hr (by rfl) (a_ (pv 2) (a_ (m_ r_ (pv 3) e_) (a_ (m_ r_ (pv 4) (pv 0)) (a_ (m_ r_ (pv 4) (pv 0)) d_))))))) (by decide +kernel)) d_))))) w_)
   (b_ (i_ (i:=12) nd rfl (Or.inl rfl) (Q_ (iN_ rfl) (by rfl) T.list boot_list (a_ (pv 11) d_)))
   (b_ (W_ (z_ gA_ (m_ R_ (m_ r_ (m_ H_ e_ (pv 5)) (pv 2)) (pv 3)) (o_ lb_ (by rfl) T.len PySem.boot_len (a_ (pv 11) d_)) (nomark _)) (g_ (i_ (i:=12) nd rfl (Or.inl rfl) (io_ rfl T.list T.range (by rfl) (by rfl) (a_ (m_ R_ (m_ R_ (pv 3) (pv 5)) (pv 10)) (a_ (m_ r_ (m_ R_ (m_ r_ (pv 2) (pv 5)) (pv 10)) e_) d_))))) w_)
   (b_ (i_ (i:=13) nd rfl (Or.inl rfl) e_)
   (b_ (C_ PassesOwn.never rfl (J_ (pv 12)) (j_ (i:=14) nd rfl (Or.inl rfl))
    (b_ (i_ (i:=15) nd rfl (Or.inl rfl) (m_ r_ (pv 10) (pv 14)))
    (g_ (W_ (PW.pt (mE_ (mF_ (oQ_ hu (pv 14) (pv 11))) (jL_ (cB_ cu_ cu_ (m_ R_ (pv 3) (pv 5)) (pv 15) (m_ r_ (pv 2) (pv 5)))))) (b_ (i_ (i:=16) nd rfl (Or.inl rfl) (s_ (a_ (o_ (cf_ rfl) (by rfl) T.min boot_min (a_ (pv 2) (a_ (pv 15) d_))) (a_ (o_ (di_ rfl) (by rfl) T.max boot_max (a_ (pv 3) (a_ (pv 15) d_))) d_))))
     (g_ (i_ (i:=13) nd rfl (Or.inl rfl) (m_ r_ (pv 13) (m_ H_ (bL_ hu (pv 11) (pv 14) (fun _ _=>rfl)) (p_ d_law_free hr (by rfl) (a_ (pv 0) (a_ (m_ r_ (pv 8) e_) (a_ (ixl (pv 16) e_) (a_ (ixl (pv 16) e_) d_)))))))))) w_))))
   (g_ (q_ (pv 13))))))))))),?_⟩
  have ok:=S.fr.ok
  have hrm:row∈Ma.cuts ps ws:=List.mem_of_getElem? hrow
  have hr6:=Ma.aS_ (fun p hp=>(ok.pr p hp).2) hrm
  obtain⟨ra,hra⟩:∃ra,rs[k0]?=some ra:=⟨_,List.getElem?_eq_getElem (by rw[S.ln];lia)⟩
  obtain⟨ts,hts⟩:∃ts,tss[k0]?=some ts:=⟨_,List.getElem?_eq_getElem (by rw[S.lt];lia)⟩
  obtain⟨r1,r2,r3⟩:=S.rw k0 row ra ts (Nat.le_refl _) hrow hra hts
  obtain⟨t,ht⟩:∃t,ts[told]?=some t:=⟨_,List.getElem?_eq_getElem (by lia)⟩
  obtain⟨g,hg,gok,gv,geq⟩:=r3 told t ht
  have htm:t∈ts:=List.mem_of_getElem? ht
  have hdl:(row.drop told).length=row.length-told:=List.length_drop
  have gin:∀q∈g,-810<=here+q.1/\here+q.1<=810:=fun q hq=>by
   have:=gok.bd q.1 (List.mem_map.mpr ⟨q,hq,rfl⟩)
   rw[hdl] at this
   lia
  refine⟨_,rfl,sh,_,rfl,SqL.of S.hs,rfl,_,_,rfl,_,_,rfl,_,_,rfl,_,_,rfl,rfl,?_⟩
  refine⟨_,rfl,sp,_,rfl,SqL.of hsp,rfl,_,_,rfl,_,_,rfl,_,_,rfl,rfl,?_⟩
  refine⟨_,rfl,_,rfl,rl,_,_,_,rfl,rfl,SqL.of S.hr,V_ (by rw[List.getElem?_map,hra];rfl),?_⟩
  refine⟨_,rfl,ra,_,_,_,rfl,rfl,SqL.of r1,V_ (by rw[List.getElem?_map,ht];rfl),?_⟩
  refine⟨_,rfl,rfl,_,rfl,?_⟩
  rw[oe_]
  have S1:=S.up (show k0<=k0+1 by lia)
  obtain⟨kvs0,ek0,kok0⟩:=S.kn
  have ntk:t≠kn:=fun z=>by rw[z,ek0] at hg;cases hg
  cases lh with
  | none =>
   refine iteT ⟨_,rfl,t,intsD g,rfl,hg,fun o=>kW_ (fun i ys H'=>ys=((g.take i).map fun q=>q.2*Mx.frC b d ((Ma.cuts ps ws).drop (k0+1)) (here+q.1) (here+q.1)).map V.int/\H' t=some (.frz o (.dK (intsD g)))/\Kp [t,kn] H H'/\∃kvs,H' kn=some (.dT kvs)/\KnOk b d ps ws kvs) ⟨rfl,c_,aQ_ Kp.refl (.inl (by simp)),kvs0,by rw[l_ ntk.symm];exact ek0,kok0⟩ (fun i ys H' _ h=>h.2.1) ?_ ?_⟩
   ·rintro i kk v ys H1 hk ⟨rfl,f1,k1,kn1⟩
    obtain⟨q,hq,rfl,rfl⟩:=eE_ hk
    have qm:=List.mem_of_getElem? hq
    have hin:=gin q qm
    have hv:=gv q qm
    have gl:=gok.len (m:=135*(row.drop told).length)
    have hgl:g.length<=1621:=by rw[hdl] at gl;lia
    have dg:DGet H1 t (.int q.1) (some (.int q.2)):=by
     have z:=U_ (k:=q.1) (.inr ⟨o,f1⟩)
     rw[Me.am_ gok.nd qm] at z
     exact z
    have SF:=S.frz hg hts htm k1 kn1
    refine⟨szl (by rw[List.length_map,List.length_map,List.length_take];lia),_,rfl,_,rfl,t,.int q.2,rfl,dg,?_⟩
    refine⟨_,rfl,_,rfl,_,_,rfl,rfl,_,rfl,_,rfl,_,_,rfl,rfl,_,rfl,_,rfl,_,_,rfl,rfl,k0+1,sh,rl,kn,f,a,c,rs,tss,b,d,ps,ws,here+q.1,here+q.1,by simp,SF,by lia,by lia,⟨⟨hin.1,Int.le_refl _,hin.2⟩,by lia⟩,hd,fun H2 kn2 k2=>?_⟩
    refine⟨_,_,rfl,rfl,.inl ⟨by lia,by lia⟩,?_,?_,?_,kn2⟩
    ·rw[List.take_add_one,hq]
     simp
    ·exact k2 _ _ f1 (by simpa using ntk)
    ·exact fun x ob e n=>k2 _ _ (k1 x ob e n) (fun z=>n (List.mem_cons_of_mem _ z))
   ·rintro ys H1 ⟨rfl,f1,k1,kn1⟩ wl hwl
    have el:(intsD g).length=g.length:=by rw[intsD,List.length_map]
    rw[el,List.take_length]
    refine⟨wl,_,rfl,SqL.of c_,t,o,intsD g,?_,(fun o' u z=>by
     have z':H t=some (.frz o' u):=z
     rw[hg] at z';cases z'),?_⟩
    ·exact(f_ hwl) _ _ f1
    ·have e1:((g.map fun q=>q.2*Mx.frC b d ((Ma.cuts ps ws).drop (k0+1)) (here+q.1) (here+q.1))).sum=Mx.fromV b d (row.drop told) ((Ma.cuts ps ws).drop (k0+1)) here none:=by
      show Mg.tg g (fun x=>Mx.frC b d ((Ma.cuts ps ws).drop (k0+1)) (here+x) (here+x))=Mx.fromN b d (row.drop told) ((Ma.cuts ps ws).drop (k0+1)) here
      rw[geq]
      rfl
     rw[e1]
     obtain⟨kvs1,ek1,kok1⟩:=kn1
     refine k _ ⟨kvs1,?_,kok1⟩ (fun x ob e n=>?_)
     ·rw[l_ ntk.symm]
      exact(f_ hwl) _ _ ek1
     ·by_cases hx:x=t
      ·rw[hx,c_,<-hg,<-hx];exact e
      ·rw[l_ hx]
       exact(f_ hwl) _ _ (k1 x ob e (fun z=>by
        rcases List.mem_cons.mp z with z | z
        ·exact hx z
        ·exact n z))
  | some lh0 =>
   obtain⟨lo,hi⟩:=lh0
   obtain⟨⟨b1,b2,b3⟩,b4⟩:=hlh (lo,hi) rfl
   have gl:=gok.len (m:=135*(row.drop told).length)
   have hgl:g.length<=1621:=by rw[hdl] at gl;lia
   refine iteF ⟨_,rfl,t,intsD g,rfl,.inl hg,fun l1 hl1=>?_⟩
   have e1:((intsD g).map fun q=>kV q.1)=(Me.keys g).map V.int:=by
    unfold intsD Me.keys
    rw[List.map_map,List.map_map]
    rfl
   rw[e1]
   have s1:=f_ (o:=.lst ((Me.keys g).map V.int)) hl1
   have u1:(upd H l1 (.lst ((Me.keys g).map V.int))) l1=_:=c_
   generalize upd H l1 (.lst ((Me.keys g).map V.int))=H1 at s1 u1⊢
   refine⟨_,rfl,_,_,rfl,rfl,.inl ⟨by decide,by decide⟩,_,rfl,_,_,rfl,rfl,_,rfl,_,_,rfl,rfl,_,rfl,t,_,rfl,s1 _ _ hg,_,_,rfl,rfl,_,rfl,?_⟩
   refine gQ_ (fun σ H'=>∃(l2:Addr) (L:List Int),σ=[some (.ref sh),some (.ref sp),some (.int lo),some (.int hi),some (.ref rl),some (.int d),some (.ref kn),some (.ref f),some (.int (k0:Int)),some (.int (told:Int)),some (.int here),some (.ref t),some (.ref l2),none,none,none,none]/\Same H H'/\H' l2=some (.lst (L.map V.int))/\l2≠kn/\(L.map (Mx.term b d g ((Ma.cuts ps ws).drop (k0+1)) here lo hi)).sum=Mx.fromV b d (row.drop told) ((Ma.cuts ps ws).drop (k0+1)) here (some (lo,hi))) ?tail (fun hT=>?thn) ?els
   case els =>
    refine⟨l1,Me.keys g,rfl,s1,u1,(fun z=>by rw[z,ek0] at hl1;cases hl1),?_⟩
    rw[Mx.term_keys gok.nd,geq]
    rfl
   case thn =>
    refine⟨_,rfl,_,rfl,_,_,rfl,rfl,_,rfl,_,_,rfl,rfl,_,rfl,_,rfl,_,_,rfl,rfl,_,rfl,_,_,rfl,rfl,_,_,rfl,rfl,_,_,rfl,⟨by lia,by lia,by lia,by lia⟩,fun l2 hl2=>?_⟩
    have s2:=f_ (o:=.lst ((List.range (lo+(d:Int)-here+1-(hi-(d:Int)-here)).toNat).map fun(i:Nat)=>V.int ((hi-(d:Int)-here)+(i:Int)))) hl2
    refine hT _ _ ⟨l2,(List.range (lo+(d:Int)-here+1-(hi-(d:Int)-here)).toNat).map fun(i:Nat)=>(hi-(d:Int)-here)+(i:Int),rfl,s1.trans s2,?_,(fun z=>by rw[z,s1 _ _ ek0] at hl2;cases hl2),?_⟩
    ·rw[c_,List.map_map];rfl
    ·rw[Mx.term_range gok.nd _ _ _ _ b4 b2,geq]
     rfl
   rintro σ H2 ⟨l2,L,rfl,s2,h2,nl2,hL⟩
   refine⟨_,rfl,l2,rfl,⟨_,SqL.of h2⟩,Z_ (K:=K) (a:=l2) (xs:=L.map V.int) (fun i σ H'=>∃(v14 v15 v16:Option V),σ=[some (.ref sh),some (.ref sp),some (.int lo),some (.int hi),some (.ref rl),some (.int d),some (.ref kn),some (.ref f),some (.int (k0:Int)),some (.int (told:Int)),some (.int here),some (.ref t),some (.ref l2),some (.int ((L.take i).map (Mx.term b d g ((Ma.cuts ps ws).drop (k0+1)) here lo hi)).sum),v14,v15,v16]/\Kp [kn] H2 H'/\∃kvs,H' kn=some (.dT kvs)/\KnOk b d ps ws kvs)
    ⟨none,none,none,rfl,Kp.refl,kvs0,s2 _ _ ek0,kok0⟩ (fun i σ H' _ h=>by obtain⟨_,_,_,_,z,_⟩:=h;exact SqL.of (z _ _ h2 (by simpa using nl2))) ?_ ?_⟩
   ·rintro i x σ H3 hx ⟨v14,v15,v16,rfl,k3,kn3⟩
    obtain⟨y,hy,rfl⟩:=kx_ hx
    have g3:H3 t=some (.dK (intsD g)):=k3 _ _ (s2 _ _ hg) (by simpa using ntk)
    have K3:Kp [kn] H H3:=(Kp.of s2).trans k3
    have tk:(L.take (i+1)).map (Mx.term b d g ((Ma.cuts ps ws).drop (k0+1)) here lo hi)=(L.take i).map (Mx.term b d g ((Ma.cuts ps ws).drop (k0+1)) here lo hi)++[Mx.term b d g ((Ma.cuts ps ws).drop (k0+1)) here lo hi y]:=by
     rw[List.take_add_one,hy,List.map_append]
     rfl
    have skip:Mx.term b d g ((Ma.cuts ps ws).drop (k0+1)) here lo hi y=0->((L.take (i+1)).map (Mx.term b d g ((Ma.cuts ps ws).drop (k0+1)) here lo hi)).sum=((L.take i).map (Mx.term b d g ((Ma.cuts ps ws).drop (k0+1)) here lo hi)).sum:=fun z=>by
     rw[tk,List.sum_append,z]
     simp
    refine⟨_,rfl,_,rfl,_,_,rfl,rfl,?_⟩
    refine⟨_,rfl,_,rfl,t,_,rfl,U_ (.inl g3),_,rfl,?_⟩
    cases el:Me.look g y with
    | none =>
     refine iteF ⟨some (.int y),some (.int (here+y)),v16,?_,k3,kn3⟩
     rw[skip (by unfold Mx.term Me.gv;rw[el];exact Int.zero_mul _)]
     rfl
    | some n =>
     have hym:(y,n)∈g:=by
      unfold Me.look at el
      obtain⟨q,hq,rfl⟩:=Option.map_eq_some_iff.mp el
      have h1:=List.mem_of_find?_eq_some hq
      have h0:=List.find?_some hq
      have h2:q.1=y:=of_decide_eq_true h0
      rw[<-h2]
      exact h1
     have hin:=gin _ hym
     have hv:=gv _ hym
     have eg:Me.gv g y=n:=by unfold Me.gv;rw[el];rfl
     refine iteT ⟨_,rfl,_,rfl,_,_,rfl,rfl,_,rfl,_,_,rfl,rfl,_,rfl,?_⟩
     by_cases c1:hi-(d:Int)<=here+y
     ·rw[decide_eq_true c1]
      refine iteT ⟨_,rfl,_,rfl,_,_,rfl,rfl,_,_,rfl,rfl,_,rfl,?_⟩
      by_cases c2:here+y<=lo+(d:Int)
      ·rw[decide_eq_true c2]
       refine iteT ⟨_,rfl,_,rfl,_,_,rfl,_,rfl,_,rfl,_,_,rfl,sz (by simp),fun e he=>?_⟩
       have s4:=f_ (o:=.lst [.int (Mx.mn lo (here+y)),.int (Mx.mx hi (here+y))]) he
       have u4:(upd H3 e (.lst [.int (Mx.mn lo (here+y)),.int (Mx.mx hi (here+y))])) e=_:=c_
       have ee:upd H3 e (.lst [.int (if here+y<lo then here+y else lo),.int (if here+y>hi then here+y else hi)])=upd H3 e (.lst [.int (Mx.mn lo (here+y)),.int (Mx.mx hi (here+y))]):=rfl
       rw[ee]
       generalize upd H3 e (.lst [.int (Mx.mn lo (here+y)),.int (Mx.mx hi (here+y))])=H4 at s4 u4⊢
       have dg:DGet H4 t (.int y) (some (.int n)):=by
        have z:=U_ (k:=y) (.inl (s4 _ _ g3))
        rw[el] at z
        exact z
       have K4:Kp [kn] H H4:=K3.same s4
       have kn4:∃kvs,H4 kn=some (.dT kvs)/\KnOk b d ps ws kvs:=let ⟨kvs,e1,e2⟩:=kn3;⟨kvs,s4 _ _ e1,e2⟩
       have SF:=S1.kp K4 kn4
       have m1:Mx.mn lo (here+y)<=lo/\Mx.mn lo (here+y)<=here+y/\(Mx.mn lo (here+y)=lo\/Mx.mn lo (here+y)=here+y):=by unfold Mx.mn;split <;> lia
       have m2:hi<=Mx.mx hi (here+y)/\here+y<=Mx.mx hi (here+y)/\(Mx.mx hi (here+y)=hi\/Mx.mx hi (here+y)=here+y):=by unfold Mx.mx;split <;> lia
       refine⟨_,rfl,_,rfl,_,rfl,t,.int n,rfl,dg,?_⟩
       refine⟨_,rfl,_,rfl,_,_,rfl,rfl,_,rfl,e,_,_,_,rfl,rfl,SqL.of u4,rfl,_,rfl,e,_,_,_,rfl,rfl,SqL.of u4,rfl,k0+1,sh,rl,kn,f,a,c,rs,tss,b,d,ps,ws,Mx.mn lo (here+y),Mx.mx hi (here+y),by simp,SF,by lia,by lia,⟨⟨by lia,by lia,by lia⟩,by lia⟩,hd,fun H5 kn5 k5=>?_⟩
       refine⟨_,_,rfl,rfl,.inl ⟨by lia,by lia⟩,_,_,rfl,rfl,some (.int y),some (.int (here+y)),some (.ref e),?_,((k3.same s4).trans k5),kn5⟩
       rw[tk,List.sum_append]
       unfold Mx.term
       rw[if_pos ⟨c1,c2⟩,eg]
       simp
      ·rw[decide_eq_false c2]
       refine iteF ⟨some (.int y),some (.int (here+y)),v16,?_,k3,kn3⟩
       rw[skip (by unfold Mx.term;rw[if_neg (fun z=>c2 z.2)];exact Int.mul_zero _)]
       rfl
     ·rw[decide_eq_false c1]
      refine iteF ⟨false,rfl,iteF ⟨some (.int y),some (.int (here+y)),v16,?_,k3,kn3⟩⟩
      rw[skip (by unfold Mx.term;rw[if_neg (fun z=>c1 z.1)];exact Int.mul_zero _)]
      rfl
   ·rintro σ H3 ⟨v14,v15,v16,rfl,k3,kn3⟩
    rw[List.length_map,List.take_length,hL]
    exact⟨_,rfl,k _ kn3 ((Kp.of s2).trans k3)⟩
end
end Hv
namespace Mx
open Me Mg Mu
section
variable{b d n p t c:Nat}{ps ps1 ps2:List Nat}{ws row:List Int}{wt:Int}
theorem oY_(hb:0<b)(ht:t<p):n / b ^ lft p ps2 t*b+c=n / b ^ (p+ps2.sum)*b ^ (t+1)+(n / b ^ lft p ps2 t % b ^ t*b+c):=by
 have:=fk_ (b:=b) (n:=n) (k:=lft p ps2 t) (i:=t)
 rw[show lft p ps2 t+t=p+ps2.sum by unfold lft;lia] at this
 conv=>lhs;rw[this]
 rw[Nat.pow_succ,Nat.add_mul,Nat.mul_assoc]
 lia
theorem kk_(hb:0<b)(hc:c<b):n / b ^ lft p ps2 t % b ^ t*b+c<b ^ (t+1):=by
 have h1:n / b ^ lft p ps2 t % b ^ t<b ^ t:=Nat.mod_lt _ (Nat.pow_pos hb)
 have:(n / b ^ lft p ps2 t % b ^ t+1)*b<=b ^ t*b:=Nat.mul_le_mul_right _ h1
 rw[Nat.add_mul] at this
 rw[Nat.pow_succ]
 lia
theorem fx_(hc:c<b)(hwt:row[t]?=some wt):ws1 b (n / b ^ lft p ps2 t % b ^ t*b+c) (row.take (t+1))=ws1 b (n / b ^ lft p ps2 t % b ^ t) (row.take t)+(c:Int)*wt:=by
 rw[List.take_add_one,hwt]
 exact hf_ b _ c (row.take t) wt hc
theorem eA_(hb:0<b)(hps:ps=ps1++p::ps2)(ht:t<p):nrN b d ps ws ((n / b ^ lft p ps2 t*b+(c+1))*b ^ lft p ps2 (t+1))=nrN b d ps ws ((n / b ^ lft p ps2 t*b+c)*b ^ lft p ps2 (t+1))+ns (fun i=>ind d (sumsN b ((n / b ^ (p+ps2.sum)*b ^ (t+1)+(n / b ^ lft p ps2 t % b ^ t*b+c))*b ^ lft p ps2 (t+1)+i) (ps1++p::ps2) ws)) (b ^ lft p ps2 (t+1)):=by
 rw[<-oY_ hb ht,<-Nat.add_assoc,Nat.add_mul (n / b ^ lft p ps2 t*b+c) 1,Nat.one_mul]
 unfold nrN
 rw[fv_,hps]
 rfl
theorem near_up:n / b ^ lft p ps2 t*b ^ lft p ps2 t=(n / b ^ lft p ps2 t*b+0)*b ^ lft p ps2 (t+1)\/p<=t:=by
 by_cases h:t<p
 ·left
  rw[Nat.add_zero,Nat.mul_assoc,<-Nat.pow_succ']
  congr 2
  unfold lft
  lia
 ·exact .inr (by lia)
theorem pa_(hb:0<b)(hw:ws.length=(p::ps2).sum)(er:ws.take p=row)(ht:t<p)(hc:c<b)(hwt:row[t]?=some wt)(hn:n<b ^ (p::ps2).sum) :
  nrN b d (p::ps2) ws ((n / b ^ lft p ps2 t*b+(c+1))*b ^ lft p ps2 (t+1))=nrN b d (p::ps2) ws ((n / b ^ lft p ps2 t*b+c)*b ^ lft p ps2 (t+1))+fromN b d (row.drop (t+1)) (Ma.cuts ps2 (ws.drop p)) (ws1 b (n / b ^ lft p ps2 t % b ^ t) (row.take t)+(c:Int)*wt):=by
 have hk:=eA_ (b:=b) (d:=d) (n:=n) (p:=p) (t:=t) (c:=c) (ps:=p::ps2) (ps1:=[]) (ps2:=ps2) (ws:=ws) hb rfl ht
 rw[hk,<-fx_ hc hwt]
 have h0:n / b ^ (p+ps2.sum)=0:=Nat.div_eq_of_lt (by rw[List.sum_cons] at hn;exact hn)
 rw[h0,Nat.zero_mul,Nat.zero_add]
 congr 1
 exact px_ hb (by rw[List.sum_cons] at hw;exact hw) er ht (kk_ hb hc)
theorem oZ_(hb:0<b)(hps:ps=ps1++p::ps2)(hw:ws.length=ps.sum)(er:(ws.drop ps1.sum).take p=row)(ht:t<p)(hc:c<b)(hwt:row[t]?=some wt)(hn:n<b ^ ps.sum)(hp:0<ps1.length)
  (hd:Ma.maxL (sumsN b (n / b ^ (p+ps2.sum)) ps1 (ws.take ps1.sum))-Ma.minL (sumsN b (n / b ^ (p+ps2.sum)) ps1 (ws.take ps1.sum))<=d) :
  nrN b d ps ws ((n / b ^ lft p ps2 t*b+(c+1))*b ^ lft p ps2 (t+1))=nrN b d ps ws ((n / b ^ lft p ps2 t*b+c)*b ^ lft p ps2 (t+1))+fromW b d (row.drop (t+1)) (Ma.cuts ps2 (ws.drop (ps1.sum+p))) (ws1 b (n / b ^ lft p ps2 t % b ^ t) (row.take t)+(c:Int)*wt) (Ma.minL (sumsN b (n / b ^ (p+ps2.sum)) ps1 (ws.take ps1.sum))) (Ma.maxL (sumsN b (n / b ^ (p+ps2.sum)) ps1 (ws.take ps1.sum))):=by
 rw[eA_ hb hps ht,<-fx_ hc hwt]
 rw[hps] at hn hw
 congr 1
 exact pL_ hb (by rw[List.sum_append,List.sum_cons] at hw;exact hw) er ht (u_lt hb hn) (kk_ hb hc) hp rfl rfl hd
theorem mM_(hb:0<b)(hps:ps=ps1++p::ps2)(hw:ws.length=ps.sum)(er:(ws.drop ps1.sum).take p=row)(ht:t<p)(hn:n<b ^ ps.sum)(hp:0<ps1.length)
  (hd:¬ Ma.maxL (sumsN b (n / b ^ (p+ps2.sum)) ps1 (ws.take ps1.sum))-Ma.minL (sumsN b (n / b ^ (p+ps2.sum)) ps1 (ws.take ps1.sum))<=d):∀c,c<=b->nrN b d ps ws ((n / b ^ lft p ps2 t*b+c)*b ^ lft p ps2 (t+1))=nrN b d ps ws ((n / b ^ lft p ps2 t*b+0)*b ^ lft p ps2 (t+1))
 | 0,_=>rfl
 | c+1,hc=>by
  rw[eA_ hb hps ht,mM_ hb hps hw er ht hn hp hd c (by lia)]
  rw[hps] at hn hw
  have:=pM_ (d:=d) hb (by rw[List.sum_append,List.sum_cons] at hw;exact hw) er ht (u_lt hb hn) (kk_ (n:=n) (ps2:=ps2) (p:=p) (t:=t) hb (show c<b by lia)) hp hd
  rw[this,Int.add_zero]
theorem near_all0(hb:0<b)(hw:ws.length=(p::ps2).sum):nrN b d (p::ps2) ws (b ^ (p::ps2).sum)=fromN b d (ws.take p) (Ma.cuts ps2 (ws.drop p)) 0:=by
 have h:=px_ (b:=b) (d:=d) (p:=p) (t:=0) (v:=0) (ps2:=ps2) (ws:=ws) hb (by rw[List.sum_cons] at hw;exact hw) rfl (Nat.zero_le _) (by simp)
 rw[Nat.zero_mul] at h
 simp only[Nat.zero_add,List.drop_zero,List.take_zero] at h
 have e:lft p ps2 0=(p::ps2).sum:=by unfold lft;rw[List.sum_cons];lia
 rw[e] at h
 exact h
end
theorem nrN_min{b:Nat}{ps:List Nat}{ws:List Int}(ok:Hv.FrOk b ps ws)(d n:Nat):nrN b (min d 4000) ps ws n=nrN b d ps ws n:=by
 by_cases h:d<=4000
 ·rw[Nat.min_eq_left h]
 ·rw[nrN_far ok (by lia),nrN_far ok (by lia)]
end Mx
namespace Hv
open PySem L2
theorem FnOk.any{P:Program}{w:World}{K:PySem.W.Frag}{mg:Str->Option Value}{base:Heap}{CX:CXT}{k n:Nat}{f:Addr}{fd:FuncData}{ps:List Str}{sps:Nat->Sp}(h:∀r,r<n->FnOk P w K mg base CX k f fd ps (sps r)):FnOk P w K mg base CX k f fd ps (fun vs H Q E=>∃r,r<n/\sps r vs H Q E) :=
 ⟨fun vs H Q E ⟨r,hr,q⟩=>(h r hr).len vs H Q E q,fun A outer s H args us vs Q E hr he hb hv ⟨r,hr',q⟩=>(h r hr').run A outer s H args us vs Q E hr he hb hv q⟩
def dT_:Sp:=fun vs H Q E=>∃r,r<4/\be_ r vs H Q E
def hq_:Sp:=fun vs H Q _=>∃(e:Addr) (ns:List Int) (here:Int),vs=[.ref e,.int here]/\H e=some (.lst (ns.map V.int))/\ns.length<=2/\∀(r:Addr) (H':Hp),H r=none->Same H H'->H' r=some (.lst ([Ma.minL (here::ns),Ma.maxL (here::ns)].map V.int))->Q (.ref r) H'
def dU_:Sp:=fun vs H Q _=>∃(sh rl kn f a c:Addr) (rs:List Addr) (tss:List (List Addr)) (b d:Nat) (ps:List Nat) (ws:List Int) (n:Nat),vs=[.ref sh,.int n]/\ShAt H 0 sh rl kn f a c rs tss b d ps ws/\d<=4000/\n<=b ^ ps.sum/\∀H',(∃kvs,H' kn=some (.dT kvs)/\KnOk b d ps ws kvs)->Kp [kn] H H'->Q (.int (Mx.nrN b d ps ws n)) H'
section
variable{P:Program}{w:World}{K:PySem.W.Frag}{mg:Str->Option Value}{base:Heap}
theorem mc_{f:Addr}{fd:FuncData}{l:List Str}(h0:FnOk P w K mg base CX0 2 f fd l (be_ 0))(h1:FnOk P w K mg base CX0 4 f fd l (be_ 1))(h2:FnOk P w K mg base CX0 6 f fd l (be_ 2))(h3:FnOk P w K mg base CX0 8 f fd l (be_ 3)):FnOk P w K mg base CX0 8 f fd l dT_ :=
 FnOk.any (n:=4) (sps:=be_) fun r hr=>match r,hr with
  | 0,_=>h0.mono (by decide)
  | 1,_=>h1.mono (by decide)
  | 2,_=>h2.mono (by decide)
  | 3,_=>h3
theorem fe_:FnScope ["ends","here"] ["ends","here"] (h_ ec_):=⟨rfl,rfl,rfl,by decide +kernel,rfl,by decide +kernel,by decide +kernel⟩
theorem nR_{f:Addr}{fd:FuncData}(F:Fun K "_law_ends" "_law_ends" ec_ f fd)(T:Txt mg):FnOk P w K mg base CX0 1 f fd ["ends","here"] hq_:=by
 refine F.ok fe_ (fun vs H Q E h=>?_) (fun cdv A outer s H vs Q E hr h=>?_)
 ·obtain⟨e,ns,here,rfl,_⟩:=h;rfl
 ·obtain⟨e,ns,here,rfl,he,hl,k⟩:=h
  have nd:=fe_.nd
  refine⟨_,(g_ (q_ (s_ (a_ (o_ (aU_ rfl) (by rfl) T.min boot_min (a_ (m_ cZ_ (s_ (a_ (pv 1) d_)) (pv 0)) d_)) (a_ (o_ (bq_ rfl) (by rfl) T.max boot_max (a_ (m_ cZ_ (s_ (a_ (pv 1) d_)) (pv 0)) d_)) d_))))),?_⟩
  refine⟨_,rfl,sz (by simp),fun l1 hl1=>?_⟩
  have s1:=f_ (o:=.lst [V.int here]) hl1
  have u1:(upd H l1 (.lst [V.int here])) l1=_:=c_
  generalize upd H l1 (.lst [V.int here])=H1 at s1 u1⊢
  refine⟨_,rfl,l1,e,_,_,rfl,rfl,u1,s1 _ _ he,sz (by rw[List.length_map];simp;lia),fun l2 hl2=>?_⟩
  have s2:=f_ (o:=.lst ([V.int here]++ns.map V.int)) hl2
  have u2:(upd H1 l2 (.lst ([V.int here]++ns.map V.int))) l2=some (.lst ((here::ns).map V.int)):=c_
  generalize upd H1 l2 (.lst ([V.int here]++ns.map V.int))=H2 at s2 u2⊢
  refine⟨l2,_,rfl,SqL.of u2,by simp,_,rfl,sz (by simp),fun l3 hl3=>?_⟩
  have s3:=f_ (o:=.lst [V.int here]) hl3
  have u3:(upd H2 l3 (.lst [V.int here])) l3=_:=c_
  generalize upd H2 l3 (.lst [V.int here])=H3 at s3 u3⊢
  refine⟨_,rfl,l3,e,_,_,rfl,rfl,u3,s3 _ _ (s2 _ _ (s1 _ _ he)),sz (by rw[List.length_map];simp;lia),fun l4 hl4=>?_⟩
  have s4:=f_ (o:=.lst ([V.int here]++ns.map V.int)) hl4
  have u4:(upd H3 l4 (.lst ([V.int here]++ns.map V.int))) l4=some (.lst ((here::ns).map V.int)):=c_
  generalize upd H3 l4 (.lst ([V.int here]++ns.map V.int))=H4 at s4 u4⊢
  have S:=s1.trans (s2.trans (s3.trans s4))
  refine⟨l4,_,rfl,SqL.of u4,by simp,sz (by simp),fun r hr'=>k r _ (S.free hr') (S.trans (f_ hr')) c_⟩
end
end Hv
namespace Mx
open Me Mg Mu
def preS(b n:Nat)(ps:List Nat)(ws:List Int)(i:Nat):List Int:=sumsN b (n / b ^ (ps.sum-(ps.take i).sum)) (ps.take i) (ws.take (ps.take i).sum)
def NsOk(b n:Nat)(ps:List Nat)(ws:List Int)(i:Nat)(ns:List Int):Prop:=(i=0/\ns=[])\/(0<i/\ns=[Ma.minL (preS b n ps ws i),Ma.maxL (preS b n ps ws i)])
def lhOf:List Int->Option (Int×Int)
 | [lo,hi]=>some (lo,hi)
 | _=>none
theorem in_{ps:List Nat}{i p:Nat}(h:ps[i]?=some p):ps=ps.take i++p::ps.drop (i+1):=by
 have hi:=(List.getElem?_eq_some_iff.mp h).1
 have e:=List.drop_eq_getElem_cons hi
 rw[(List.getElem?_eq_some_iff.mp h).2] at e
 rw[<-e,List.take_append_drop]
theorem ps_sum{ps:List Nat}{i p:Nat}(h:ps[i]?=some p):ps.sum=(ps.take i).sum+(p+(ps.drop (i+1)).sum):=by
 conv=>lhs;rw[in_ h]
 rw[List.sum_append,List.sum_cons]
theorem take_sum{ps:List Nat}{i p:Nat}(h:ps[i]?=some p):(ps.take (i+1)).sum=(ps.take i).sum+p:=by
 rw[List.take_add_one,h,List.sum_append]
 simp
section
variable{b d n p t c i:Nat}{ps:List Nat}{ws row ns:List Int}{wt:Int}
theorem ek_(h:ps[i]?=some p):preS b n ps ws i=sumsN b (n / b ^ (p+(ps.drop (i+1)).sum)) (ps.take i) (ws.take (ps.take i).sum):=by
 unfold preS
 have:=ps_sum h
 rw[show ps.sum-(ps.take i).sum=p+(ps.drop (i+1)).sum by lia]
theorem near_step(hb:0<b)(hw:ws.length=ps.sum)(h:ps[i]?=some p)(hn:n<b ^ ps.sum)(er:(ws.drop (ps.take i).sum).take p=row)(ht:t<p)(hc:c<b)(hwt:row[t]?=some wt)(hns:NsOk b n ps ws i ns)(hd:∀lh,lhOf ns=some lh->lh.2-lh.1<=d) :
  nrN b d ps ws ((n / b ^ lft p (ps.drop (i+1)) t*b+(c+1))*b ^ lft p (ps.drop (i+1)) (t+1))=nrN b d ps ws ((n / b ^ lft p (ps.drop (i+1)) t*b+c)*b ^ lft p (ps.drop (i+1)) (t+1))+fromV b d (row.drop (t+1)) ((Ma.cuts ps ws).drop (i+1)) (ws1 b (n / b ^ lft p (ps.drop (i+1)) t % b ^ t) (row.take t)+(c:Int)*wt) (lhOf ns):=by
 rw[fN_,take_sum h]
 rcases hns with⟨rfl,rfl⟩ | ⟨hi,rfl⟩
 ·have e:=in_ h
  rw[List.take_zero,List.nil_append,Nat.zero_add] at e
  have es:(ps.take 0).sum=0:=by simp
  rw[es,List.drop_zero] at er
  rw[es,show(0:Nat)+p=p by lia]
  show _=_+fromN b d (row.drop (t+1)) _ _
  have:=pa_ (b:=b) (d:=d) (n:=n) (p:=p) (t:=t) (c:=c) (ps2:=ps.drop 1) (ws:=ws) (row:=row) (wt:=wt) hb (by rw[<-e];exact hw) er ht hc hwt (by rw[<-e];exact hn)
  rw[<-e] at this
  exact this
 ·have hd':=hd _ rfl
  rw[ek_ h] at hd'⊢
  show _=_+fromW b d (row.drop (t+1)) _ _ _ _
  exact oZ_ hb (in_ h) hw er ht hc hwt hn (by rw[List.length_take];have:=(List.getElem?_eq_some_iff.mp h).1;lia) hd'
theorem near_none(hb:0<b)(hw:ws.length=ps.sum)(h:ps[i]?=some p)(hn:n<b ^ ps.sum)(er:(ws.drop (ps.take i).sum).take p=row)(ht:t<p)(hi:0<i)(hd:¬ Ma.maxL (preS b n ps ws i)-Ma.minL (preS b n ps ws i)<=d)(c:Nat)(hc:c<=b) :
  nrN b d ps ws ((n / b ^ lft p (ps.drop (i+1)) t*b+c)*b ^ lft p (ps.drop (i+1)) (t+1))=nrN b d ps ws ((n / b ^ lft p (ps.drop (i+1)) t*b+0)*b ^ lft p (ps.drop (i+1)) (t+1)):=by
 rw[ek_ h] at hd
 exact mM_ hb (in_ h) hw er ht hn (by rw[List.length_take];have:=(List.getElem?_eq_some_iff.mp h).1;lia) hd c hc
theorem jN_(hb:0<b)(hw:ws.length=ps.sum)(h:ps[i]?=some p)(hn:n<b ^ ps.sum)(er:(ws.drop (ps.take i).sum).take p=row):preS b n ps ws (i+1)=preS b n ps ws i++[ws1 b (n / b ^ (ps.drop (i+1)).sum % b ^ p) row]:=by
 rw[ek_ h]
 have e:=in_ h
 have hs:=ps_sum h
 have:=jY_ (b:=b) (n:=n) (p:=p) (ps1:=ps.take i) (ps2:=ps.drop (i+1)) (ws:=ws) hb (by rw[<-e];exact hn) (by lia) er
 unfold preS
 rw[take_sum h,show ps.sum-((ps.take i).sum+p)=(ps.drop (i+1)).sum by lia,List.take_add_one,h]
 exact this
theorem fJ_{pre:List Int}{x:Int}(h:0<pre.length):Ma.minL (x::[Ma.minL pre,Ma.maxL pre])=Ma.minL (pre++[x])/\Ma.maxL (x::[Ma.minL pre,Ma.maxL pre])=Ma.maxL (pre++[x]):=by
 obtain⟨a1,a2⟩:=Ma.x_ pre h
 obtain⟨b1,b2⟩:=Ma.v_ pre h
 have hl:0<(x::[Ma.minL pre,Ma.maxL pre]).length:=by simp
 obtain⟨c1,c2⟩:=Ma.x_ _ hl
 obtain⟨d1,d2⟩:=Ma.v_ _ hl
 constructor
 ·refine Ma.ca_ ?_ fun y hy=>?_
  ·simp only[List.mem_cons,List.not_mem_nil,or_false] at d1
   rcases d1 with e | e | e
   ·rw[e];simp
   ·rw[e];exact List.mem_append_left _ b1
   ·have:=d2 (Ma.minL pre) (by simp)
    have:=b2 _ a1
    have e2:Ma.minL (x::[Ma.minL pre,Ma.maxL pre])=Ma.minL pre:=by lia
    rw[e2];exact List.mem_append_left _ b1
  ·rcases List.mem_append.mp hy with hy | hy
   ·have:=d2 (Ma.minL pre) (by simp)
    have:=b2 y hy
    lia
   ·rw[List.mem_singleton.mp hy]
    exact d2 x (by simp)
 ·refine Ma.cb_ ?_ fun y hy=>?_
  ·simp only[List.mem_cons,List.not_mem_nil,or_false] at c1
   rcases c1 with e | e | e
   ·rw[e];simp
   ·have:=c2 (Ma.maxL pre) (by simp)
    have:=b2 _ a1
    have e2:Ma.maxL (x::[Ma.minL pre,Ma.maxL pre])=Ma.maxL pre:=by lia
    rw[e2];exact List.mem_append_left _ a1
   ·rw[e];exact List.mem_append_left _ a1
  ·rcases List.mem_append.mp hy with hy | hy
   ·have:=c2 (Ma.maxL pre) (by simp)
    have:=a2 y hy
    lia
   ·rw[List.mem_singleton.mp hy]
    exact c2 x (by simp)
theorem preS_len:(preS b n ps ws i).length=(ps.take i).length:=by
 unfold preS
 exact Ma.aL_ _ _
theorem ns_next(hb:0<b)(hw:ws.length=ps.sum)(h:ps[i]?=some p)(hn:n<b ^ ps.sum)(er:(ws.drop (ps.take i).sum).take p=row)(hns:NsOk b n ps ws i ns):NsOk b n ps ws (i+1) [Ma.minL (ws1 b (n / b ^ (ps.drop (i+1)).sum % b ^ p) row::ns),Ma.maxL (ws1 b (n / b ^ (ps.drop (i+1)).sum % b ^ p) row::ns)]:=by
 refine .inr ⟨by lia,?_⟩
 rw[jN_ hb hw h hn er]
 rcases hns with⟨rfl,rfl⟩ | ⟨hi,rfl⟩
 ·have e:preS b n ps ws 0=[]:=List.eq_nil_of_length_eq_zero (by rw[preS_len];simp)
  rw[e]
  rfl
 ·have hl:0<(preS b n ps ws i).length:=by
   rw[preS_len,List.length_take]
   have:=(List.getElem?_eq_some_iff.mp h).1
   lia
  rw[(fJ_ hl).1,(fJ_ hl).2]
theorem preS_mem(hb:0<b)(hw:ws.length=ps.sum)(h:ps[i]?=some p)(hn:n<b ^ ps.sum):∀x∈preS b n ps ws i,x∈sumsN b n ps ws:=fun x hx=>by
 have e:=in_ h
 have hs:=ps_sum h
 rw[ek_ h] at hx
 have hu:n / b ^ (p+(ps.drop (i+1)).sum)<b ^ (ps.take i).sum:=u_lt (ps1:=ps.take i) (ps2:=ps.drop (i+1)) (p:=p) hb (by rw[<-e];exact hn)
 have key:=cx_ hb (ps.take i) (p::ps.drop (i+1)) ws (n / b ^ (p+(ps.drop (i+1)).sum)) (n % b ^ (p+(ps.drop (i+1)).sum)) hu (by rw[List.sum_cons];exact Nat.mod_lt _ (Nat.pow_pos hb)) (by rw[List.sum_cons];lia)
 rw[<-e,List.sum_cons,Nat.mul_comm,Nat.div_add_mod] at key
 rw[key]
 exact List.mem_append_left _ hx
end
end Mx
namespace Hv
open PySem L2
theorem W_in{b q:Nat}{r:List Int}(hb0:0<b)(hb:b<=16)(hw:∀x∈r,-9<=x/\x<=9) : -(135*(r.length:Int))<=Mg.ws1 b q r/\Mg.ws1 b q r<=135*(r.length:Int):=mp_ hb0 hb hw
theorem kpL{kn x:Addr}{H H':Hp}{kvs:List (List Key×V)}{xs:List V}(k:Kp [kn] H H')(hk:H kn=some (.dT kvs))(h:H x=some (.lst xs)):H' x=some (.lst xs):=k _ _ h (fun z=>by
 have z':x=kn:=by simpa using z
 rw[z',hk] at h
 cases h)
theorem fu_{b n:Nat}{ps:List Nat}{ws ns:List Int}{i:Nat}(h:Mx.NsOk b n ps ws i ns):ns=[]\/∃lo hi,ns=[lo,hi]:=by
 rcases h with⟨_,e⟩ | ⟨_,e⟩
 ·exact .inl e
 ·exact .inr ⟨_,_,e⟩
theorem oV_{b n d:Nat}{ps:List Nat}{ws ns:List Int}{i p:Nat}(ok:FrOk b ps ws)(hp:ps[i]?=some p)(hn:n<b ^ ps.sum)(h:Mx.NsOk b n ps ws i ns)(hd:∀lh,Mx.lhOf ns=some lh->lh.2-lh.1<=d):∀q,Mx.lhOf ns=some q->LH d q.1 q.2:=fun q hq=>by
 have hdq:=hd q hq
 rcases h with⟨_,e⟩ | ⟨hi,e⟩
 ·rw[e] at hq;cases hq
 ·rw[e] at hq
  cases hq
  have hl:0<(Mx.preS b n ps ws i).length:=by
   rw[Mx.preS_len,List.length_take]
   have:=(List.getElem?_eq_some_iff.mp hp).1
   lia
  have hb:0<b:=by have:=ok.b2;lia
  have bd:∀x∈Mx.preS b n ps ws i,-810<=x/\x<=810:=fun x hx=>dM_ ok x (Mx.preS_mem hb ok.wl hp hn x hx)
  have h1:=bd _ (Ma.v_ _ hl).1
  have h2:=bd _ (Ma.x_ _ hl).1
  have h3:=(Ma.v_ _ hl).2 _ (Ma.x_ _ hl).1
  exact⟨⟨h1.1,h3,h2.2⟩,hdq⟩
theorem cut2{ns:List Int}(h:ns=[]\/∃lo hi,ns=[lo,hi]):cutV (ns.map V.int++[.non,.non]) none (some 2)=[loV (Mx.lhOf ns),hiV (Mx.lhOf ns)]:=by
 rw[show(2:Int)=((2:Nat):Int) from rfl,kT_]
 rcases h with rfl | ⟨lo,hi,rfl⟩ <;> rfl
theorem nD_{X:Cx}{e:Expr}{t t':TT}(h:PT X e t)(w:∀ σ H Q,t' σ H Q->t σ H Q):PT X e t':=fun pins s σ H Q I q=>h pins s σ H Q I (w σ H Q q)
def tEnds(i j:Nat):TT:=fun σ H Q=>∃(e:Addr) (ns:List Int) (d:Nat),σ[i]?=some (some (.ref e))/\σ[j]?=some (some (.int (d:Int)))/\H e=some (.lst (ns.map V.int))/\(ns=[]\/∃lo hi,ns=[lo,hi])/\∀(c:Bool) (H':Hp),Same H H'->(c=true↔∀lh,Mx.lhOf ns=some lh->lh.2-lh.1<=d)->Q c H'
theorem kJ_{P:Program}{w:World}{K:PySem.W.Frag}{i j:Nat}(σ:St)(H:Hp)(Q:Bool->Hp->Prop)(h:tEnds i j σ H Q):tOr (tTest (tOp (rEqD P w false) (tVar i) (tLst tNil))) (tTest (tOp (rI0 fun a b=>.bl (decide (a<=b))) (tOp (rI0 fun a b=>.int (a-b)) (tOp (rIxL K) (tVar i) (tC (.int 1))) (tOp (rIxL K) (tVar i) (tC (.int 0)))) (tVar j))) σ H Q:=by
 obtain⟨e,ns,d,h1,h2,he,hns,k⟩:=h
 rcases hns with rfl | ⟨lo,hi,rfl⟩
 ·refine⟨_,h1,sz (by decide),fun q hq=>?_⟩
  have s1:=f_ (o:=.lst []) hq
  exact L2.gS_ (d:=.list []) (datL (s1 _ _ he) .nil) (datL c_ .nil) rfl (by decide) ⟨_,rfl,iteT (k true _ s1 ⟨(fun _ lh z=>nomatch z),fun _=>rfl⟩)⟩
 ·refine⟨_,h1,sz (by decide),fun q hq=>?_⟩
  have s1:=f_ (o:=.lst []) hq
  refine⟨.list [.int lo,.int hi],.list [],datL (s1 _ _ he) (.cons (datI lo) (.cons (datI hi) .nil)),datL c_ .nil,⟨rfl,rfl,by simp[PyData.depth,PyData.depthAll]⟩,false,rfl,iteF ?_⟩
  refine⟨_,h1,e,_,_,_,rfl,rfl,SqL.of (s1 _ _ he),rfl,_,h1,e,_,_,_,rfl,rfl,SqL.of (s1 _ _ he),rfl,_,_,rfl,rfl,_,h2,_,_,rfl,rfl,_,rfl,k _ _ s1 ?_⟩
  rw[decide_eq_true_eq]
  exact⟨fun z lh hl=>by cases hl;exact z,fun z=>z (lo,hi) rfl⟩
section
variable{P:Program}{w:World}{K:PySem.W.Frag}{mg:Str->Option Value}{base:Heap}
theorem dx_:FnScope ["sheet","n","rows","d","known","frame","figures","total","at","ends","part","size","here","told","low","high","figure","spot"] ["sheet","n"] (h_ cV_):=⟨rfl,rfl,rfl,by decide +kernel,rfl,by decide +kernel,by decide +kernel⟩
theorem lN_{f:Addr}{fd:FuncData}(F:Fun K "_law_below" "_law_below" cV_ f fd)(T:Txt mg)(d_law_many:Def P w K mg base 1 "_law_many" ["frame"] N_)(d_law_from:Def P w K mg base 8 "_law_from" ["sheet","spot","low","high"] dT_)(d_law_figures:Def P w K mg base 1 "_law_figures" ["frame","n"] ai_)(d_law_ends:Def P w K mg base 1 "_law_ends" ["ends","here"] hq_):FnOk P w K mg base CX0 9 f fd ["sheet","n"] dU_:=by
 refine F.ok dx_ (fun vs H Q E h=>?_) (fun cdv A outer s H vs Q E hr h=>?_)
 ·obtain⟨sh,rl,kn,f,a,c,rs,tss,b,d,ps,ws,n,rfl,_⟩:=h;rfl
 ·obtain⟨sh,rl,kn,f,a,c,rs,tss,b,d,ps,ws,n,rfl,S,hd,hn,k⟩:=h
  have nd:=dx_.nd
  refine⟨_,(b_ (bf_ (pv 0) (bX_ rfl (n_ (j_ (i:=2) nd rfl (Or.inl rfl)) (n_ (j_ (i:=3) nd rfl (Or.inl rfl)) (n_ (j_ (i:=4) nd rfl (Or.inl rfl)) (n_ (j_ (i:=5) nd rfl (Or.inl rfl)) P_))))))
   (b_ (W_ (z_ ir_ (pv 3) e_ (nomark _)) (g_ (q_ (pv 1))) w_)
   (b_ (W_ (z_ cl_ (pv 1) (p_ d_law_many hr.mo (by rfl) (a_ (pv 5) d_)) (nomark _)) (g_ (q_ (p_ d_law_from hr (by rfl) (a_ (pv 0) (a_ (s_ (a_ e_ (a_ e_ (a_ e_ d_)))) (a_ ad_ (a_ ad_ d_))))))) w_)
   (b_ (i_ (i:=6) nd rfl (Or.inl rfl) (p_ d_law_figures hr.mo (by rfl) (a_ (pv 5) (a_ (pv 1) d_))))
   (b_ (i_ (i:=7) nd rfl (Or.inl rfl) e_)
   (b_ (i_ (i:=8) nd rfl (Or.inl rfl) e_)
   (b_ (i_ (i:=9) nd rfl (Or.inl rfl) (s_ d_))
   (b_ (C_ PassesOwn.never rfl (jT_ (by rfl) T.enum (ixt (pv 5) e_)) (fl_ rfl (n_ (j_ (i:=10) nd rfl (Or.inl rfl)) (n_ (j_ (i:=11) nd rfl (Or.inl rfl)) P_)))
    (b_ (i_ (i:=12) nd rfl (Or.inl rfl) e_)
    (b_ (C_ PassesOwn.never rfl (y_ (by rfl) T.range (a_ (pv 11) d_)) (j_ (i:=13) nd rfl (Or.inl rfl))
     (b_ (fj_ (W_ (nD_ (PW.pt (do_ (z_ (nL_ P w rfl rfl hr.units) (pv 9) (s_ d_) (nomark _)) (bW_ (z_ cu_ (m_ R_ (ixl (pv 9) e_) (ixl (pv 9) e_)) (pv 3) (nomark _))))) (kJ_ (i:=9) (j:=3))) (b_ (bf_ (aD_ bI_ (m_ cZ_ (pv 9) (s_ (a_ ad_ (a_ ad_ d_)))) cW_ (au_ e_)) (bX_ rfl (n_ (j_ (i:=14) nd rfl (Or.inl rfl)) (n_ (j_ (i:=15) nd rfl (Or.inl rfl)) P_))))
      (g_ (C_ PassesOwn.never rfl (y_ (by rfl) T.range (a_ (ixl (pv 6) (pv 8)) d_)) (j_ (i:=16) nd rfl (Or.inl rfl))
       (b_ (i_ (i:=17) nd rfl (Or.inl rfl) (s_ (a_ (pv 10) (a_ (m_ r_ (pv 13) e_) (a_ (m_ r_ (pv 12) (m_ H_ (pv 16) (ixl (ixt (pv 5) e_) (pv 8)))) d_)))))
       (g_ (i_ (i:=7) nd rfl (Or.inl rfl) (m_ r_ (pv 7) (p_ d_law_from hr (by rfl) (a_ (pv 0) (a_ (pv 17) (a_ (pv 14) (a_ (pv 15) d_)))))))))))) w_))
     (b_ (i_ (i:=12) nd rfl (Or.inl rfl) (m_ r_ (pv 12) (m_ H_ (ixl (pv 6) (pv 8)) (ixl (ixt (pv 5) e_) (pv 8)))))
     (g_ (i_ (i:=8) nd rfl (Or.inl rfl) (m_ r_ (pv 8) e_))))))
    (g_ (i_ (i:=9) nd rfl (Or.inl rfl) (p_ d_law_ends hr.mo (by rfl) (a_ (pv 9) (a_ (pv 12) d_))))))))
   (g_ (q_ (pv 7))))))))))),?_⟩
  have ok:=S.fr.ok
  have b2:=ok.b2
  have b16:=ok.b16
  have hb:0<b:=by lia
  have l2:=ok.l2
  have l4:=ok.l4
  have hsum:=ok.sum
  have hwl:=ok.wl
  obtain⟨kvs0,ek0,kok0⟩:=S.kn
  refine⟨_,rfl,sh,_,rfl,SqL.of S.hs,rfl,_,_,rfl,_,_,rfl,_,_,rfl,_,_,rfl,rfl,?_⟩
  refine⟨_,rfl,_,_,rfl,rfl,_,rfl,ite2 (fun hc=>?_) (fun hc=>?_)⟩
  ·have hc':=of_decide_eq_true hc
   have:=k H S.kn Kp.refl
   rw[Mx.nrN_far ok (by lia)] at this
   exact⟨_,rfl,this⟩
  have hd17:d<=1700:=by
   have:¬ (1700:Int)<(d:Int):=fun z=>hc (decide_eq_true z)
   lia
  refine⟨_,rfl,_,rfl,f,a,c,b,ps,ws,rfl,S.fr,fun H1 s1=>⟨rfl,_,rfl,?_⟩⟩
  have S1:=S.keep s1
  by_cases hnm:n=b ^ ps.sum
  ·rw[decide_eq_true (by rw[hnm])]
   obtain⟨p,ps2,hps⟩:∃p ps2,ps=p::ps2:=by
    cases ps with
    | nil=>simp at l2
    | cons p ps2=>exact⟨p,ps2,rfl⟩
   refine iteT ⟨_,rfl,sz (by simp),fun sp hsp=>?_⟩
   have s2:=f_ (o:=.lst [V.int 0,V.int 0,V.int 0]) hsp
   have u2:(upd H1 sp (.lst [V.int 0,V.int 0,V.int 0])) sp=_:=c_
   generalize upd H1 sp (.lst [V.int 0,V.int 0,V.int 0])=H2 at s2 u2⊢
   have hrow:(Ma.cuts ps ws)[0]?=some (ws.take p):=by rw[hps,Ma.cuts];rfl
   refine⟨ps.length-1,by lia,0,sh,rl,kn,f,a,c,rs,tss,b,d,ps,ws,sp,0,0,ws.take p,none,rfl,S1.keep s2,u2,by lia,hrow,Nat.zero_le _,⟨by decide,by decide⟩,hd,fun q hq=>(by cases hq),fun H3 kn3 k3=>?_⟩
   have e:Mx.fromV b d ((ws.take p).drop 0) ((Ma.cuts ps ws).drop (0+1)) 0 none=Mx.nrN b d ps ws n:=by
    rw[hnm]
    show Mx.fromN b d ((ws.take p).drop 0) ((Ma.cuts ps ws).drop 1) 0=_
    rw[hps] at hwl⊢
    rw[Mx.near_all0 hb hwl,Ma.cuts]
    rfl
   rw[e]
   exact k H3 kn3 ((Kp.of (s1.trans s2)).trans k3)
  rw[decide_eq_false (fun z=>hnm (by injection z with z;lia))]
  have hlt:n<b ^ ps.sum:=by lia
  refine iteF ⟨_,rfl,_,rfl,f,a,c,b,ps,ws,n,rfl,S1.fr,hlt,fun fg H2 hfg s2 h2=>⟨sz (by decide),fun e0 he0=>?_⟩⟩
  have s3:=f_ (o:=.lst []) he0
  have u3:(upd H2 e0 (.lst [])) e0=some (.lst (([]:List Int).map V.int)):=c_
  generalize upd H2 e0 (.lst [])=H3 at s3 u3⊢
  have S3:=(S1.keep s2).keep s3
  have T3:Same H H3:=s1.trans (s2.trans s3)
  have z0:Mx.nrN b d ps ws (n / b ^ (ps.sum-(ps.take 0).sum)*b ^ (ps.sum-(ps.take 0).sum))=0:=by
   have e:(ps.take 0).sum=0:=by simp
   rw[e,Nat.sub_zero,Nat.div_eq_of_lt hlt,Nat.zero_mul]
   rfl
  refine⟨_,rfl,_,_,_,_,rfl,rfl,SqT.of S3.fr.tp,rfl,a,rfl,⟨_,SqL.of S3.fr.hp⟩,hW_ (K:=K) (a:=a) (xs:=natV ps) (fun i σ H4=>∃(e:Addr) (ns:List Int) (v10 v11 v12 v13 v14 v15 v16 v17:Option V),σ=[some (.ref sh),some (.int n),some (.ref rl),some (.int d),some (.ref kn),some (.ref f),some (.ref fg),some (.int (Mx.nrN b d ps ws (n / b ^ (ps.sum-(ps.take i).sum)*b ^ (ps.sum-(ps.take i).sum)))),some (.int (((ps.take i).sum:Nat):Int)),some (.ref e),v10,v11,v12,v13,v14,v15,v16,v17]/\Kp [kn] H3 H4/\(∃kvs,H4 kn=some (.dT kvs)/\KnOk b d ps ws kvs)/\H4 e=some (.lst (ns.map V.int))/\Mx.NsOk b n ps ws i ns)
   ⟨e0,[],none,none,none,none,none,none,none,none,by rw[z0];rfl,Kp.refl,S3.kn,u3,.inl ⟨rfl,rfl⟩⟩ (fun i σ H4 _ h=>by
    obtain⟨_,_,_,_,_,_,_,_,_,_,_,z,_⟩:=h
    obtain⟨kv,e1,_⟩:=S3.kn
    exact SqL.of (kpL z e1 S3.fr.hp)) ?_ ?_⟩
  ·rintro i x σ H4 tp hx ⟨e,ns,v10,v11,v12,v13,v14,v15,v16,v17,rfl,k4,kn4,e4,nok⟩ htp
   obtain⟨p,hp,rfl⟩:=df_ hx
   have hil:i<ps.length:=(List.getElem?_eq_some_iff.mp hp).1
   have hp6:=ok.pr p (List.mem_of_getElem? hp)
   have hrow:=Ma.aF_ ps ws i p hp
   generalize er:(ws.drop (ps.take i).sum).take p=row at hrow
   have hps:=Mx.ps_sum hp
   have hrl:row.length=p:=by rw[<-er,List.length_take,List.length_drop];lia
   have hrw:∀y∈row,-9<=y/\y<=9:=fun y hy=>ok.wr y (Ma.bA_ (List.mem_of_getElem? hrow) y hy)
   have s5:=f_ (o:=.tup [.int (i:Int),.int (p:Int)]) htp
   have u5:(upd H4 tp (.tup [.int (i:Int),.int (p:Int)])) tp=_:=c_
   generalize upd H4 tp (.tup [.int (i:Int),.int (p:Int)])=H5 at s5 u5⊢
   refine⟨tp,_,rfl,SqT.of u5,rfl,_,_,rfl,_,_,rfl,rfl,?_⟩
   have kn5:∃kvs,H5 kn=some (.dT kvs)/\KnOk b d ps ws kvs:=let ⟨kv,h1,h2⟩:=kn4;⟨kv,s5 _ _ h1,h2⟩
   have k5:=k4.same s5
   have e5:=s5 _ _ e4
   have eL0:Mu.lft p (ps.drop (i+1)) 0=ps.sum-(ps.take i).sum:=by unfold Mu.lft;lia
   refine⟨_,rfl,_,rfl,by lia,by lia,D_ (n:=(p:Int).toNat) (fun t σ H6=>∃(v13 v14 v15 v16 v17:Option V),σ=[some (.ref sh),some (.int n),some (.ref rl),some (.int d),some (.ref kn),some (.ref f),some (.ref fg),some (.int (Mx.nrN b d ps ws (n / b ^ Mu.lft p (ps.drop (i+1)) t*b ^ Mu.lft p (ps.drop (i+1)) t))),some (.int (((ps.take i).sum+t:Nat):Int)),some (.ref e),some (.int (i:Int)),some (.int (p:Int)),some (.int (Mg.ws1 b (n / b ^ Mu.lft p (ps.drop (i+1)) t % b ^ t) (row.take t))),v13,v14,v15,v16,v17]/\Kp [kn] H3 H6/\(∃kvs,H6 kn=some (.dT kvs)/\KnOk b d ps ws kvs)/\H6 e=some (.lst (ns.map V.int)))
    ⟨v13,v14,v15,v16,v17,by rw[eL0,Nat.add_zero];rfl,k5,kn5,e5⟩ ?_ ?_⟩
   ·rintro t σ H6 ht ⟨v13,v14,v15,v16,v17,rfl,k6,kn6,e6⟩
    have ht':t<p:=by lia
    have ez:(0:Int)+(t:Int)=(t:Int):=Int.zero_add _
    rw[ez]
    obtain⟨wt,hwt⟩:∃wt,row[t]?=some wt:=⟨_,List.getElem?_eq_getElem (by lia)⟩
    have hw9:=hrw wt (List.mem_of_getElem? hwt)
    have hwA:ws[(ps.take i).sum+t]?=some wt:=by
     rw[<-er,List.getElem?_take,if_pos ht',List.getElem?_drop] at hwt
     exact hwt
    obtain⟨fig,hfig⟩:∃fig,fig=n / b ^ Mu.lft p (ps.drop (i+1)) (t+1) % b:=⟨_,rfl⟩
    have hfb:fig<b:=by rw[hfig];exact Nat.mod_lt _ hb
    have hfA:(natV (Ma.dws b n ps.sum ps.sum))[(ps.take i).sum+t]?=some (.int (fig:Int)):=by
     rw[natV,List.getElem?_map,Mu.hY_ (by lia),show ps.sum-1-((ps.take i).sum+t)=Mu.lft p (ps.drop (i+1)) (t+1) by unfold Mu.lft;lia,<-hfig]
     rfl
    obtain⟨kv3,ekv3,_⟩:=S3.kn
    have SH:∀H',Kp [kn] H3 H'->(∃kvs,H' kn=some (.dT kvs)/\KnOk b d ps ws kvs)->ShAt H' 0 sh rl kn f a c rs tss b d ps ws:=fun H' k' h'=>S3.kp k' h'
    have FG:∀H',Kp [kn] H3 H'->H' fg=some (.lst (natV (Ma.dws b n ps.sum ps.sum))):=fun H' k'=>kpL k' ekv3 (s3 _ _ h2)
    have up0:=(Mx.near_up (b:=b) (n:=n) (p:=p) (t:=t) (ps2:=ps.drop (i+1))).resolve_right (by lia)
    have upE:n / b ^ Mu.lft p (ps.drop (i+1)) t*b+fig=n / b ^ Mu.lft p (ps.drop (i+1)) (t+1):=by rw[hfig];exact Mu.ky_ ht'
    have hh:=W_in (b:=b) (q:=n / b ^ Mu.lft p (ps.drop (i+1)) t % b ^ t) (r:=row.take t) hb b16 fun y hy=>hrw y (List.mem_of_mem_take hy)
    have hrt:(row.take t).length=t:=by rw[List.length_take];lia
    rw[hrt] at hh
    generalize hhere:Mg.ws1 b (n / b ^ Mu.lft p (ps.drop (i+1)) t % b ^ t) (row.take t)=here at hh⊢
    refine⟨fun σ H7=>∃(v14 v15 v16 v17:Option V),σ=[some (.ref sh),some (.int n),some (.ref rl),some (.int d),some (.ref kn),some (.ref f),some (.ref fg),some (.int (Mx.nrN b d ps ws (n / b ^ Mu.lft p (ps.drop (i+1)) (t+1)*b ^ Mu.lft p (ps.drop (i+1)) (t+1)))),some (.int (((ps.take i).sum+t:Nat):Int)),some (.ref e),some (.int (i:Int)),some (.int (p:Int)),some (.int here),some (.int (t:Int)),v14,v15,v16,v17]/\Kp [kn] H3 H7/\(∃kvs,H7 kn=some (.dT kvs)/\KnOk b d ps ws kvs)/\H7 e=some (.lst (ns.map V.int)),?iff,?tail⟩
    case iff =>
     refine⟨e,ns,d,rfl,rfl,e6,fu_ nok,fun cc H7 s7 hcc=>?_⟩
     have k7:=k6.same s7
     have kn7:∃kvs,H7 kn=some (.dT kvs)/\KnOk b d ps ws kvs:=let ⟨kv,h1,h2⟩:=kn6;⟨kv,s7 _ _ h1,h2⟩
     have e7:=s7 _ _ e6
     refine ite2 (fun hc1=>?_) (fun hc1=>?_)
     ·have hcd:=hcc.mp hc1
      refine⟨_,rfl,sz (by simp),fun q1 hq1=>?_⟩
      have s8:=f_ (o:=.lst [V.non,V.non]) hq1
      have u8:(upd H7 q1 (.lst [V.non,V.non])) q1=_:=c_
      generalize upd H7 q1 (.lst [V.non,V.non])=H8 at s8 u8⊢
      refine⟨e,q1,_,_,rfl,rfl,s8 _ _ e7,u8,sz (by rcases fu_ nok with rfl | ⟨_,_,rfl⟩ <;> simp),fun q2 hq2=>?_⟩
      have s9:=f_ (o:=.lst (ns.map V.int++[V.non,V.non])) hq2
      have u9:(upd H8 q2 (.lst (ns.map V.int++[V.non,V.non]))) q2=_:=c_
      generalize upd H8 q2 (.lst (ns.map V.int++[V.non,V.non]))=H9 at s9 u9⊢
      refine⟨_,rfl,q2,_,rfl,SqL.of u9,fun q3 hq3=>?_⟩
      rw[cut2 (fu_ nok)]
      have s10:=f_ (o:=.lst [loV (Mx.lhOf ns),hiV (Mx.lhOf ns)]) hq3
      have u10:(upd H9 q3 (.lst [loV (Mx.lhOf ns),hiV (Mx.lhOf ns)])) q3=_:=c_
      generalize upd H9 q3 (.lst [loV (Mx.lhOf ns),hiV (Mx.lhOf ns)])=H10 at s10 u10⊢
      refine⟨q3,_,rfl,SqL.of u10,rfl,_,_,rfl,_,_,rfl,rfl,?_⟩
      have S710:=s8.trans (s9.trans s10)
      have k10:=k7.same S710
      have kn10:∃kvs,H10 kn=some (.dT kvs)/\KnOk b d ps ws kvs:=let ⟨kv,h1,h2⟩:=kn7;⟨kv,S710 _ _ h1,h2⟩
      have e10:=S710 _ _ e7
      refine⟨_,rfl,_,rfl,fg,_,_,_,rfl,rfl,SqL.of (FG _ k10),V_ hfA,_,rfl,by lia,by lia,D_ (n:=(fig:Int).toNat) (fun c' σ H11=>∃(v16 v17:Option V),σ=[some (.ref sh),some (.int n),some (.ref rl),some (.int d),some (.ref kn),some (.ref f),some (.ref fg),some (.int (Mx.nrN b d ps ws ((n / b ^ Mu.lft p (ps.drop (i+1)) t*b+c')*b ^ Mu.lft p (ps.drop (i+1)) (t+1)))),some (.int (((ps.take i).sum+t:Nat):Int)),some (.ref e),some (.int (i:Int)),some (.int (p:Int)),some (.int here),some (.int (t:Int)),some (loV (Mx.lhOf ns)),some (hiV (Mx.lhOf ns)),v16,v17]/\Kp [kn] H3 H11/\(∃kvs,H11 kn=some (.dT kvs)/\KnOk b d ps ws kvs)/\H11 e=some (.lst (ns.map V.int)))
       ⟨v16,v17,by rw[<-up0];rfl,k10,kn10,e10⟩ ?_ ?_⟩
      ·rintro c' σ H11 hc' ⟨v16,v17,rfl,k11,kn11,e11⟩
       have hcb:c'<b:=by lia
       have ez':(0:Int)+(c':Int)=(c':Int):=Int.zero_add _
       rw[ez']
       have S11:=SH _ k11 kn11
       refine⟨_,rfl,_,rfl,_,_,rfl,rfl,_,rfl,_,rfl,_,rfl,_,_,_,_,rfl,rfl,SqT.of S11.fr.tp,rfl,_,rfl,c,_,_,_,rfl,rfl,SqL.of S11.fr.hw,V_ (by rw[List.getElem?_map,hwA];rfl),_,_,rfl,rfl,.inr ⟨by lia,by lia⟩,_,_,rfl,rfl,sz (by simp),fun sp hsp=>?_⟩
       have s12:=f_ (o:=.lst [V.int (i:Int),V.int ((t:Int)+1),V.int (here+(c':Int)*wt)]) hsp
       have u12:(upd H11 sp (.lst [V.int (i:Int),V.int ((t:Int)+1),V.int (here+(c':Int)*wt)])) sp=_:=c_
       generalize upd H11 sp (.lst [V.int (i:Int),V.int ((t:Int)+1),V.int (here+(c':Int)*wt)])=H12 at s12 u12⊢
       have hst:=Me.cI_ (m:=135*(t:Int)) (x:=here) (w:=wt) (d:=c') (b:=b) hh hw9 b16 hcb
       refine⟨_,rfl,_,rfl,_,rfl,_,rfl,_,rfl,ps.length-(i+1),by lia,i,sh,rl,kn,f,a,c,rs,tss,b,d,ps,ws,sp,t+1,here+(c':Int)*wt,row,Mx.lhOf ns,rfl,(S11.up (Nat.zero_le i)).keep s12,u12,by lia,hrow,by lia,?_,hd,oV_ ok hp hlt nok hcd,fun H13 kn13 k13=>?_⟩
       ·push_cast
        lia
       ·refine⟨_,_,rfl,rfl,some (.int (c':Int)),some (.ref sp),?_,(k11.same s12).trans k13,kn13,?_⟩
        ·have key:=Mx.near_step (b:=b) (d:=d) (n:=n) (p:=p) (t:=t) (c:=c') (i:=i) (ps:=ps) (ws:=ws) (row:=row) (ns:=ns) (wt:=wt) hb hwl hp hlt er ht' hcb hwt nok hcd
         rw[hhere] at key
         rw[key]
         rfl
        ·obtain⟨kv,ekv,_⟩:=kn11
         exact kpL k13 (s12 _ _ ekv) (s12 _ _ e11)
      ·rintro σ H11 ⟨v16,v17,rfl,k11,kn11,e11⟩
       have ef:(fig:Int).toNat=fig:=by lia
       rw[ef,upE]
       exact⟨_,_,_,_,rfl,k11,kn11,e11⟩
     ·have hnc:¬ ∀lh,Mx.lhOf ns=some lh->lh.2-lh.1<=d:=fun z=>hc1 (hcc.mpr z)
      refine⟨v14,v15,v16,v17,?_,k7,kn7,e7⟩
      have hpos:0<i/\¬ Ma.maxL (Mx.preS b n ps ws i)-Ma.minL (Mx.preS b n ps ws i)<=d:=by
       rcases nok with⟨_,rfl⟩ | ⟨hi,rfl⟩
       ·exact absurd (fun lh z=>nomatch z) hnc
       ·exact⟨hi,fun z=>hnc (fun lh hl=>by cases hl;exact z)⟩
      have key:=Mx.near_none (b:=b) (d:=d) (n:=n) (p:=p) (t:=t) (i:=i) (ps:=ps) (ws:=ws) (row:=row) hb hwl hp hlt er ht' hpos.1 hpos.2 fig (by lia)
      rw[upE,<-up0] at key
      rw[key]
      rfl
    rintro σ H7 ⟨v14,v15,v16,v17,rfl,k7,kn7,e7⟩
    have S7:=SH _ k7 kn7
    refine⟨_,rfl,_,rfl,_,rfl,fg,_,_,_,rfl,rfl,SqL.of (FG _ k7),V_ hfA,_,rfl,_,_,_,_,rfl,rfl,SqT.of S7.fr.tp,rfl,_,rfl,c,_,_,_,rfl,rfl,SqL.of S7.fr.hw,V_ (by rw[List.getElem?_map,hwA];rfl),_,_,rfl,rfl,.inr ⟨by lia,by lia⟩,_,_,rfl,rfl,?_⟩
    refine⟨_,rfl,_,_,rfl,rfl,some (.int (t:Int)),v14,v15,v16,v17,?_,k7,kn7,e7⟩
    have e1:here+(fig:Int)*wt=Mg.ws1 b (n / b ^ Mu.lft p (ps.drop (i+1)) (t+1) % b ^ (t+1)) (row.take (t+1)):=by
     rw[<-hhere,hfig]
     exact Mu.iP_ hb ht' hwt
    have e2:(((ps.take i).sum+(t+1):Nat):Int)=(((ps.take i).sum+t:Nat):Int)+1:=by push_cast;lia
    rw[<-e1,e2]
    rfl
   ·rintro σ H6 ⟨v13,v14,v15,v16,v17,rfl,k6,kn6,e6⟩
    have ep:(p:Int).toNat=p:=by lia
    rw[ep]
    have eLp:Mu.lft p (ps.drop (i+1)) p=(ps.drop (i+1)).sum:=by unfold Mu.lft;lia
    rw[eLp]
    have nl:=fu_ nok
    refine⟨_,rfl,_,rfl,e,ns,_,rfl,e6,by rcases nl with rfl | ⟨_,_,rfl⟩ <;> simp,fun e' H7 he' s7 h7=>?_⟩
    have ert:row.take p=row:=List.take_of_length_le (by lia)
    rw[ert] at h7⊢
    refine⟨e',_,some (.int (i:Int)),some (.int (p:Int)),some (.int (Mg.ws1 b (n / b ^ (ps.drop (i+1)).sum % b ^ p) row)),v13,v14,v15,v16,v17,?_,k6.same s7,(let ⟨kv,h1,h2⟩:=kn6;⟨kv,s7 _ _ h1,h2⟩),h7,Mx.ns_next hb hwl hp hlt er nok⟩
    rw[Mx.take_sum hp,show ps.sum-((ps.take i).sum+p)=(ps.drop (i+1)).sum by lia]
    rfl
  ·rintro σ H4 ⟨e,ns,v10,v11,v12,v13,v14,v15,v16,v17,rfl,k4,kn4,e4,nok⟩
   have el:(natV ps).length=ps.length:=by simp[natV]
   rw[el,List.take_length,Nat.sub_self,Nat.pow_zero,Nat.div_one,Nat.mul_one]
   exact⟨_,rfl,k H4 kn4 ((Kp.of T3).trans k4)⟩
end
theorem FrAt.kpn{H H':Hp}{f a c kn:Addr}{b:Nat}{ps:List Nat}{ws:List Int}{kvs:List (List Key×V)}(G:FrAt H f a c b ps ws)(hk:H kn=some (.dT kvs))(k:Kp [kn] H H'):FrAt H' f a c b ps ws:=by
 have ne:∀x o,H x=some o->(∀kvs,o≠.dT kvs)->H' x=some o:=fun x o e n=>k x o e (fun z=>by
  have z':x=kn:=by simpa using z
  rw[z',hk] at e
  exact n _ (Option.some.inj e).symm)
 exact⟨ne _ _ G.tp (fun _ z=>nomatch z),ne _ _ G.hp (fun _ z=>nomatch z),ne _ _ G.hw (fun _ z=>nomatch z),G.ok⟩
theorem Store.kpn{H H':Hp}{st kn:Addr}{kvs:List (List Key×V)}(S:Store H st)(hk:H kn=some (.dT kvs))(k:Kp [kn] H H'):Store H' st:=let ⟨g,c,e,h⟩:=S;⟨g,c,e,kpL k hk h⟩
theorem ShAt.kst{H H':Hp}{k0:Nat}{sh rl kn f a c st:Addr}{rs:List Addr}{tss:List (List Addr)}{b d:Nat}{ps:List Nat}{ws:List Int}(S:ShAt H k0 sh rl kn f a c rs tss b d ps ws)(E:Store H st)(na:a≠st)(nc:c≠st)(k:Kp [st] H H'):ShAt H' k0 sh rl kn f a c rs tss b d ps ws:=by
 obtain⟨x,y,z,e0⟩:=E
 have k1:∀q o,H q=some o->(∀xs:List V,(∃y1 y2 y3,xs=[.int y1,.int y2,.int y3])->o≠.lst xs)->H' q=some o:=fun q o e n=>k q o e (fun z'=>by
  have z'':q=st:=by simpa using z'
  rw[z'',e0] at e
  exact n _ ⟨_,_,_,rfl⟩ (Option.some.inj e).symm)
 have refs:∀(l:List Addr) (xs:List V),(∃y1 y2 y3:Int,xs=[.int y1,.int y2,.int y3])->HO.lst (l.map V.ref)≠.lst xs:=fun l xs hx e=>by
  obtain⟨y1,y2,y3,rfl⟩:=hx
  have e':l.map V.ref=[.int y1,.int y2,.int y3]:=by injection e
  cases l with
  | nil=>cases e'
  | cons a r=>cases e'
 have hs:=k1 _ _ S.hs (fun xs hx e=>by
  obtain⟨y1,y2,y3,rfl⟩:=hx
  have e':[V.ref rl,V.int d,V.ref kn,V.ref f]=[.int y1,.int y2,.int y3]:=by injection e
  cases e')
 refine⟨hs,S.fr.kps ⟨x,y,z,e0⟩ na nc k,k1 _ _ S.hr (refs _),S.ln,S.lt,fun i row ra ts h1 h2 h3 h4=>?_,S.ap,?_⟩
 ·obtain⟨r1,r2,r3⟩:=S.rw i row ra ts h1 h2 h3 h4
  exact⟨k1 _ _ r1 (refs _),r2,fun j t e=>let ⟨g,g1,g2⟩:=r3 j t e;⟨g,k1 _ _ g1 (fun xs _ e=>nomatch e),g2⟩⟩
 ·obtain⟨kvs,e1,e2⟩:=S.kn
  exact⟨kvs,k1 _ _ e1 (fun xs _ e=>nomatch e),e2⟩
end Hv
namespace Mx
open Me Mg Mu
section
variable{b d n m p t c i q:Nat}{ps:List Nat}{ws row ns:List Int}{wt:Int}
theorem NsOk.of(h:NsOk b n ps ws i ns)(e:n / b ^ (ps.sum-(ps.take i).sum)=m / b ^ (ps.sum-(ps.take i).sum)):NsOk b m ps ws i ns:=by
 unfold NsOk preS at *
 rw[<-e]
 exact h
theorem kN_(hb:0<b):q*b ^ lft p (ps.drop (i+1)) t / b ^ lft p (ps.drop (i+1)) t=q:=Nat.mul_div_cancel _ (Nat.pow_pos hb)
theorem div_part(hb:0<b)(h:ps[i]?=some p)(ht:t<=p):q*b ^ lft p (ps.drop (i+1)) t / b ^ (ps.sum-(ps.take i).sum)=q / b ^ t:=by
 have hs:=ps_sum h
 have e:b ^ (ps.sum-(ps.take i).sum)=b ^ lft p (ps.drop (i+1)) t*b ^ t:=by
  rw[<-Nat.pow_add]
  congr 1
  unfold lft
  lia
 rw[e,<-Nat.div_div_eq_div_mul,Nat.mul_div_cancel _ (Nat.pow_pos hb)]
theorem q_small(hb:0<b)(h:ps[i]?=some p)(ht:t<=p)(hq:q<b ^ ((ps.take i).sum+t)):q*b ^ lft p (ps.drop (i+1)) t<b ^ ps.sum:=by
 have hs:=ps_sum h
 have e:b ^ ps.sum=b ^ ((ps.take i).sum+t)*b ^ lft p (ps.drop (i+1)) t:=by
  rw[<-Nat.pow_add]
  congr 1
  unfold lft
  lia
 rw[e]
 exact Nat.mul_lt_mul_of_pos_right hq (Nat.pow_pos hb)
theorem up_one(hb:0<b)(ht:t<p):(q+1)*b ^ lft p (ps.drop (i+1)) t=(q*b+b)*b ^ lft p (ps.drop (i+1)) (t+1):=by
 have e:b ^ lft p (ps.drop (i+1)) t=b*b ^ lft p (ps.drop (i+1)) (t+1):=by
  rw[<-Nat.pow_succ']
  congr 1
  unfold lft
  lia
 rw[e,<-Nat.mul_assoc,Nat.add_mul,Nat.one_mul]
theorem up_two(hb:0<b)(ht:t<p):q*b ^ lft p (ps.drop (i+1)) t=(q*b+0)*b ^ lft p (ps.drop (i+1)) (t+1):=by
 have e:b ^ lft p (ps.drop (i+1)) t=b*b ^ lft p (ps.drop (i+1)) (t+1):=by
  rw[<-Nat.pow_succ']
  congr 1
  unfold lft
  lia
 rw[e,<-Nat.mul_assoc]
 rfl
theorem by_step(hb:0<b)(hw:ws.length=ps.sum)(h:ps[i]?=some p)(hq:q<b ^ ((ps.take i).sum+t))(er:(ws.drop (ps.take i).sum).take p=row)(ht:t<p)(hc:c<b)(hwt:row[t]?=some wt)(hns:NsOk b (q*b ^ lft p (ps.drop (i+1)) t) ps ws i ns)(hd:∀lh,lhOf ns=some lh->lh.2-lh.1<=d) :
  nrN b d ps ws ((q*b+(c+1))*b ^ lft p (ps.drop (i+1)) (t+1))=nrN b d ps ws ((q*b+c)*b ^ lft p (ps.drop (i+1)) (t+1))+fromV b d (row.drop (t+1)) ((Ma.cuts ps ws).drop (i+1)) (ws1 b (q % b ^ t) (row.take t)+(c:Int)*wt) (lhOf ns):=by
 have:=near_step (b:=b) (d:=d) (n:=q*b ^ lft p (ps.drop (i+1)) t) (p:=p) (t:=t) (c:=c) (i:=i) (ps:=ps) (ws:=ws) (row:=row) (ns:=ns) (wt:=wt) hb hw h (q_small hb h (by lia) hq) er ht hc hwt hns hd
 rw[kN_ hb] at this
 exact this
theorem by_near(hb:0<b)(hw:ws.length=ps.sum)(h:ps[i]?=some p)(hq:q<b ^ ((ps.take i).sum+t))(er:(ws.drop (ps.take i).sum).take p=row)(ht:t<p)(hns:NsOk b (q*b ^ lft p (ps.drop (i+1)) t) ps ws i ns)(hlt:nrN b d ps ws (q*b ^ lft p (ps.drop (i+1)) t)<nrN b d ps ws ((q+1)*b ^ lft p (ps.drop (i+1)) t)):∀lh,lhOf ns=some lh->lh.2-lh.1<=d:=fun lh hl=>by
 rcases hns with⟨_,rfl⟩ | ⟨hi,rfl⟩
 ·cases hl
 ·cases hl
  by_cases z:Ma.maxL (preS b (q*b ^ lft p (ps.drop (i+1)) t) ps ws i)-Ma.minL (preS b (q*b ^ lft p (ps.drop (i+1)) t) ps ws i)<=d
  ·exact z
  ·exfalso
   have:=near_none (b:=b) (d:=d) (n:=q*b ^ lft p (ps.drop (i+1)) t) (p:=p) (t:=t) (i:=i) (ps:=ps) (ws:=ws) (row:=row) hb hw h (q_small hb h (by lia) hq) er ht hi z b (Nat.le_refl _)
   rw[kN_ hb,<-up_one hb ht,<-up_two hb ht] at this
   lia
end
end Mx
namespace Hv
open PySem L2
def spBy:Sp:=fun vs H Q _=>∃(sh rl kn f a c:Addr) (rs:List Addr) (tss:List (List Addr)) (b d:Nat) (ps:List Nat) (ws:List Int) (k:Nat),vs=[.ref sh,.int k]/\ShAt H 0 sh rl kn f a c rs tss b d ps ws/\d<=4000/\∀(v:V) (H':Hp),(∃kvs,H' kn=some (.dT kvs)/\KnOk b d ps ws kvs)->Kp [kn] H H'->ByV b d ps ws k v->Q v H'
section
variable{P:Program}{w:World}{K:PySem.W.Frag}{mg:Str->Option Value}{base:Heap}
theorem jy_:FnScope ["sheet","k","rows","d","known","frame","number","at","ends","part","size","here","low","high","told","chosen","figure","spot","ways"] ["sheet","k"] (h_ jE_):=⟨rfl,rfl,rfl,by decide +kernel,rfl,by decide +kernel,by decide +kernel⟩
theorem pF_{f:Addr}{fd:FuncData}(F:Fun K "_law_by" "_law_by" jE_ f fd)(T:Txt mg)(d_law_many:Def P w K mg base 1 "_law_many" ["frame"] N_)(d_law_from:Def P w K mg base 8 "_law_from" ["sheet","spot","low","high"] dT_)(d_law_ends:Def P w K mg base 1 "_law_ends" ["ends","here"] hq_):FnOk P w K mg base CX0 9 f fd ["sheet","k"] spBy:=by
 refine F.ok jy_ (fun vs H Q E h=>?_) (fun cdv A outer s H vs Q E hr h=>?_)
 ·obtain⟨sh,rl,kn,f,a,c,rs,tss,b,d,ps,ws,n,rfl,_⟩:=h;rfl
 ·obtain⟨sh,rl,kn,f,a,c,rs,tss,b,d,ps,ws,n,rfl,S,hd,k⟩:=h
  have nd:=jy_.nd
  refine⟨_,(b_ (bf_ (pv 0) (bX_ rfl (n_ (j_ (i:=2) nd rfl (Or.inl rfl)) (n_ (j_ (i:=3) nd rfl (Or.inl rfl)) (n_ (j_ (i:=4) nd rfl (Or.inl rfl)) (n_ (j_ (i:=5) nd rfl (Or.inl rfl)) P_))))))
   (b_ (W_ (z_ ir_ (pv 3) e_ (nomark _)) (g_ (q_ (ixl (s_ (a_ (pv 1) (a_ ad_ d_))) (Q_ ax_ (by rfl) T.int boot_int (a_ (aw_ lD_ (pv 1) (p_ d_law_many hr.mo (by rfl) (a_ (pv 5) d_)) (nomark _)) d_))))) w_)
   (b_ (W_ (z_ lD_ (pv 1) (p_ d_law_from hr (by rfl) (a_ (pv 0) (a_ (s_ (a_ e_ (a_ e_ (a_ e_ d_)))) (a_ ad_ (a_ ad_ d_))))) (nomark _)) (g_ (q_ ad_)) w_)
   (b_ (i_ (i:=6) nd rfl (Or.inl rfl) e_)
   (b_ (i_ (i:=7) nd rfl (Or.inl rfl) e_)
   (b_ (i_ (i:=8) nd rfl (Or.inl rfl) (s_ d_))
   (b_ (C_ PassesOwn.never rfl (jT_ (by rfl) T.enum (ixt (pv 5) e_)) (fl_ rfl (n_ (j_ (i:=9) nd rfl (Or.inl rfl)) (n_ (j_ (i:=10) nd rfl (Or.inl rfl)) P_)))
    (b_ (i_ (i:=11) nd rfl (Or.inl rfl) e_)
    (b_ (bf_ (aD_ bI_ (m_ cZ_ (pv 8) (s_ (a_ ad_ (a_ ad_ d_)))) cW_ (au_ e_)) (bX_ rfl (n_ (j_ (i:=12) nd rfl (Or.inl rfl)) (n_ (j_ (i:=13) nd rfl (Or.inl rfl)) P_))))
    (b_ (C_ PassesOwn.never rfl (y_ (by rfl) T.range (a_ (pv 10) d_)) (j_ (i:=14) nd rfl (Or.inl rfl))
     (b_ (i_ (i:=15) nd rfl (Or.inl rfl) ad_)
     (b_ (C_ PassesOwn.never rfl (y_ (by rfl) T.range (a_ (ixt (pv 5) e_) d_)) (j_ (i:=16) nd rfl (Or.inl rfl))
      (g_ (W_ (z_ mK_ (pv 15) ad_ (nomark _)) (b_ (i_ (i:=17) nd rfl (Or.inl rfl) (s_ (a_ (pv 9) (a_ (m_ r_ (pv 14) e_) (a_ (m_ r_ (pv 11) (m_ H_ (pv 16) (ixl (ixt (pv 5) e_) (pv 7)))) d_)))))
       (b_ (i_ (i:=18) nd rfl (Or.inl rfl) (p_ d_law_from hr (by rfl) (a_ (pv 0) (a_ (pv 17) (a_ (pv 12) (a_ (pv 13) d_))))))
       (g_ (W_ (z_ gA_ (pv 1) (pv 18) (nomark _)) (g_ (i_ (i:=15) nd rfl (Or.inl rfl) (pv 16))) (g_ (i_ (i:=1) nd rfl (Or.inl rfl) (m_ R_ (pv 1) (pv 18)))))))) w_)))
     (b_ (i_ (i:=11) nd rfl (Or.inl rfl) (m_ r_ (pv 11) (m_ H_ (pv 15) (ixl (ixt (pv 5) e_) (pv 7)))))
     (b_ (i_ (i:=6) nd rfl (Or.inl rfl) (m_ r_ (m_ H_ (pv 6) (ixt (pv 5) e_)) (pv 15)))
     (g_ (i_ (i:=7) nd rfl (Or.inl rfl) (m_ r_ (pv 7) e_))))))))
    (g_ (i_ (i:=8) nd rfl (Or.inl rfl) (p_ d_law_ends hr.mo (by rfl) (a_ (pv 8) (a_ (pv 11) d_)))))))))
   (g_ (q_ (pv 6)))))))))),?_⟩
  have ok:=S.fr.ok
  have b2:=ok.b2
  have b16:=ok.b16
  have hb:0<b:=by lia
  have l2:=ok.l2
  have l4:=ok.l4
  have hsum:=ok.sum
  have hwl:=ok.wl
  have hpp:=hG_ ok
  obtain⟨kvs0,ek0,kok0⟩:=S.kn
  refine⟨_,rfl,sh,_,rfl,SqL.of S.hs,rfl,_,_,rfl,_,_,rfl,_,_,rfl,_,_,rfl,rfl,?_⟩
  refine⟨_,rfl,_,_,rfl,rfl,_,rfl,ite2 (fun hc=>?_) (fun hc=>?_)⟩
  ·have hc':=of_decide_eq_true hc
   refine⟨_,rfl,sz (by simp),fun l1 hl1=>?_⟩
   have s1:=f_ (o:=.lst [V.int (n:Int),V.non]) hl1
   have u1:(upd H l1 (.lst [V.int (n:Int),V.non])) l1=_:=c_
   generalize upd H l1 (.lst [V.int (n:Int),V.non])=H1 at s1 u1⊢
   refine⟨_,rfl,_,rfl,f,a,c,b,ps,ws,rfl,S.fr.keep s1,fun H2 s2=>⟨_,_,rfl,rfl,.inr ⟨_,rfl,?_⟩⟩⟩
   have S2:=s1.trans s2
   by_cases hn:b ^ ps.sum<=n
   ·rw[decide_eq_true (show((b ^ ps.sum:Nat):Int)<=(n:Int) by lia)]
    refine bB_ (v:=.non) (s2 _ _ u1) rfl (k .non H2 (S.keep S2).kn (Kp.of S2) (.inl ⟨rfl,?_⟩))
    rw[Mx.nrN_far ok (by lia)]
    lia
   ·rw[decide_eq_false (show ¬ ((b ^ ps.sum:Nat):Int)<=(n:Int) by lia)]
    exact bB_ (v:=.int (n:Int)) (s2 _ _ u1) rfl (k (.int n) H2 (S.keep S2).kn (Kp.of S2) (.inr ⟨n,rfl,by lia,Mx.nr_far ok (by lia),Mx.nrN_far ok (by lia) n⟩))
  obtain⟨p0,ps0,hps0⟩:∃p ps2,ps=p::ps2:=by
   cases ps with
   | nil=>simp at l2
   | cons p ps2=>exact⟨p,ps2,rfl⟩
  refine⟨_,rfl,_,rfl,sz (by simp),fun sp0 hsp0=>?_⟩
  have s1:=f_ (o:=.lst [V.int 0,V.int 0,V.int 0]) hsp0
  have u1:(upd H sp0 (.lst [V.int 0,V.int 0,V.int 0])) sp0=_:=c_
  generalize upd H sp0 (.lst [V.int 0,V.int 0,V.int 0])=H1 at s1 u1⊢
  have hrow0:(Ma.cuts ps ws)[0]?=some (ws.take p0):=by rw[hps0,Ma.cuts];rfl
  refine⟨ps.length-1,by lia,0,sh,rl,kn,f,a,c,rs,tss,b,d,ps,ws,sp0,0,0,ws.take p0,none,rfl,S.keep s1,u1,by lia,hrow0,Nat.zero_le _,⟨by decide,by decide⟩,hd,fun q hq=>(by cases hq),fun H2 kn2 k2=>?_⟩
  have ev:Mx.fromV b d ((ws.take p0).drop 0) ((Ma.cuts ps ws).drop (0+1)) 0 none=Mx.nrN b d ps ws (b ^ ps.sum):=by
   show Mx.fromN b d ((ws.take p0).drop 0) ((Ma.cuts ps ws).drop 1) 0=_
   rw[hps0] at hwl⊢
   rw[Mx.near_all0 hb hwl,Ma.cuts]
   rfl
  rw[ev]
  have k2':Kp [kn] H H2:=(Kp.of s1).trans k2
  refine⟨_,_,rfl,rfl,_,rfl,ite2 (fun hle=>?_) (fun hgt=>?_)⟩
  ·exact k .non H2 kn2 k2' (.inl ⟨rfl,of_decide_eq_true hle⟩)
  have hgt':(n:Int)<Mx.nrN b d ps ws (b ^ ps.sum):=by
   have:¬ Mx.nrN b d ps ws (b ^ ps.sum)<=(n:Int):=fun z=>hgt (decide_eq_true z)
   lia
  refine⟨sz (by decide),fun e0 he0=>?_⟩
  have s3:=f_ (o:=.lst []) he0
  have u3:(upd H2 e0 (.lst [])) e0=some (.lst (([]:List Int).map V.int)):=c_
  generalize upd H2 e0 (.lst [])=H3 at s3 u3⊢
  have S3:=(S.kp k2' kn2).keep s3
  have SH:∀H',Kp [kn] H3 H'->(∃kvs,H' kn=some (.dT kvs)/\KnOk b d ps ws kvs)->ShAt H' 0 sh rl kn f a c rs tss b d ps ws:=fun H' k' h'=>S3.kp k' h'
  refine⟨_,rfl,_,_,_,_,rfl,rfl,SqT.of S3.fr.tp,rfl,a,rfl,⟨_,SqL.of S3.fr.hp⟩,hW_ (K:=K) (a:=a) (xs:=natV ps) (fun i σ H4=>∃(e:Addr) (ns:List Int) (q r:Nat) (v9 v10 v11 v12 v13 v14 v15 v16 v17 v18:Option V),σ=[some (.ref sh),some (.int r),some (.ref rl),some (.int d),some (.ref kn),some (.ref f),some (.int q),some (.int (((ps.take i).sum:Nat):Int)),some (.ref e),v9,v10,v11,v12,v13,v14,v15,v16,v17,v18]/\Kp [kn] H3 H4/\(∃kvs,H4 kn=some (.dT kvs)/\KnOk b d ps ws kvs)/\H4 e=some (.lst (ns.map V.int))/\Mx.NsOk b (q*b ^ (ps.sum-(ps.take i).sum)) ps ws i ns/\q<b ^ (ps.take i).sum/\Mx.nrN b d ps ws (q*b ^ (ps.sum-(ps.take i).sum))+r=n/\(n:Int)<Mx.nrN b d ps ws ((q+1)*b ^ (ps.sum-(ps.take i).sum)))
   ⟨e0,[],0,n,none,none,none,none,none,none,none,none,none,none,rfl,Kp.refl,S3.kn,u3,.inl ⟨rfl,rfl⟩,by simp,by rw[Nat.zero_mul];show(0:Int)+n=n;lia,by simp;exact hgt'⟩ (fun i σ H4 _ h=>by
    obtain⟨_,_,_,_,_,_,_,_,_,_,_,_,_,_,_,z,_⟩:=h
    obtain⟨kv,e1,_⟩:=S3.kn
    exact SqL.of (kpL z e1 S3.fr.hp)) ?_ ?_⟩
  ·rintro i x σ H4 tp hx ⟨e,ns,q0,r0,v9,v10,v11,v12,v13,v14,v15,v16,v17,v18,rfl,k4,kn4,e4,nok0,hq0,hr0,hlt0⟩ htp
   obtain⟨p,hp,rfl⟩:=df_ hx
   have hil:i<ps.length:=(List.getElem?_eq_some_iff.mp hp).1
   have hp6:=ok.pr p (List.mem_of_getElem? hp)
   have hrow:=Ma.aF_ ps ws i p hp
   generalize er:(ws.drop (ps.take i).sum).take p=row at hrow
   have hps:=Mx.ps_sum hp
   have hrl:row.length=p:=by rw[<-er,List.length_take,List.length_drop];lia
   have hrw:∀y∈row,-9<=y/\y<=9:=fun y hy=>ok.wr y (Ma.bA_ (List.mem_of_getElem? hrow) y hy)
   have eL0:ps.sum-(ps.take i).sum=Mu.lft p (ps.drop (i+1)) 0:=by unfold Mu.lft;lia
   rw[eL0] at nok0 hr0 hlt0
   have hcd:=Mx.by_near (b:=b) (d:=d) (q:=q0) (p:=p) (t:=0) (i:=i) (ps:=ps) (ws:=ws) (row:=row) (ns:=ns) hb hwl hp (by simpa using hq0) er (by lia) nok0 (by lia)
   have nl:=fu_ nok0
   have hlh:=oV_ ok hp (Mx.q_small (q:=q0) hb hp (Nat.zero_le p) (by simpa using hq0)) nok0 hcd
   have s5:=f_ (o:=.tup [.int (i:Int),.int (p:Int)]) htp
   have u5:(upd H4 tp (.tup [.int (i:Int),.int (p:Int)])) tp=_:=c_
   generalize upd H4 tp (.tup [.int (i:Int),.int (p:Int)])=H5 at s5 u5⊢
   refine⟨tp,_,rfl,SqT.of u5,rfl,_,_,rfl,_,_,rfl,rfl,?_⟩
   have e5:=s5 _ _ e4
   refine⟨_,rfl,sz (by simp),fun q1 hq1=>?_⟩
   have s6:=f_ (o:=.lst [V.non,V.non]) hq1
   have u6:(upd H5 q1 (.lst [V.non,V.non])) q1=_:=c_
   generalize upd H5 q1 (.lst [V.non,V.non])=H6 at s6 u6⊢
   refine⟨e,q1,_,_,rfl,rfl,s6 _ _ e5,u6,sz (by rcases nl with rfl | ⟨_,_,rfl⟩ <;> simp),fun q2 hq2=>?_⟩
   have s7:=f_ (o:=.lst (ns.map V.int++[V.non,V.non])) hq2
   have u7:(upd H6 q2 (.lst (ns.map V.int++[V.non,V.non]))) q2=_:=c_
   generalize upd H6 q2 (.lst (ns.map V.int++[V.non,V.non]))=H7 at s7 u7⊢
   refine⟨_,rfl,q2,_,rfl,SqL.of u7,fun q3 hq3=>?_⟩
   rw[cut2 nl]
   have s8:=f_ (o:=.lst [loV (Mx.lhOf ns),hiV (Mx.lhOf ns)]) hq3
   have u8:(upd H7 q3 (.lst [loV (Mx.lhOf ns),hiV (Mx.lhOf ns)])) q3=_:=c_
   generalize upd H7 q3 (.lst [loV (Mx.lhOf ns),hiV (Mx.lhOf ns)])=H8 at s8 u8⊢
   refine⟨q3,_,rfl,SqL.of u8,rfl,_,_,rfl,_,_,rfl,rfl,?_⟩
   have T8:=s5.trans (s6.trans (s7.trans s8))
   have k8:=k4.same T8
   have kn8:∃kvs,H8 kn=some (.dT kvs)/\KnOk b d ps ws kvs:=let ⟨kv,h1,h2⟩:=kn4;⟨kv,T8 _ _ h1,h2⟩
   have e8:=T8 _ _ e4
   refine⟨_,rfl,_,rfl,by lia,by lia,D_ (n:=(p:Int).toNat) (fun t σ H9=>∃(q r:Nat) (v14 v15 v16 v17 v18:Option V),σ=[some (.ref sh),some (.int r),some (.ref rl),some (.int d),some (.ref kn),some (.ref f),some (.int q),some (.int (((ps.take i).sum+t:Nat):Int)),some (.ref e),some (.int (i:Int)),some (.int (p:Int)),some (.int (Mg.ws1 b (q % b ^ t) (row.take t))),some (loV (Mx.lhOf ns)),some (hiV (Mx.lhOf ns)),v14,v15,v16,v17,v18]/\Kp [kn] H3 H9/\(∃kvs,H9 kn=some (.dT kvs)/\KnOk b d ps ws kvs)/\H9 e=some (.lst (ns.map V.int))/\Mx.NsOk b (q*b ^ Mu.lft p (ps.drop (i+1)) t) ps ws i ns/\q<b ^ ((ps.take i).sum+t)/\Mx.nrN b d ps ws (q*b ^ Mu.lft p (ps.drop (i+1)) t)+r=n/\(n:Int)<Mx.nrN b d ps ws ((q+1)*b ^ Mu.lft p (ps.drop (i+1)) t))
    ⟨q0,r0,v14,v15,v16,v17,v18,by rw[Nat.pow_zero,Nat.mod_one];rfl,k8,kn8,e8,nok0,by simpa using hq0,hr0,hlt0⟩ ?_ ?_⟩
   ·rintro t σ H9 ht ⟨q,r,v14,v15,v16,v17,v18,rfl,k9,kn9,e9,nok,hq,hr,hlt⟩
    have ht':t<p:=by lia
    have ez:(0:Int)+(t:Int)=(t:Int):=Int.zero_add _
    rw[ez]
    obtain⟨wt,hwt⟩:∃wt,row[t]?=some wt:=⟨_,List.getElem?_eq_getElem (by lia)⟩
    have hw9:=hrw wt (List.mem_of_getElem? hwt)
    have hwA:ws[(ps.take i).sum+t]?=some wt:=by
     rw[<-er,List.getElem?_take,if_pos ht',List.getElem?_drop] at hwt
     exact hwt
    have hh:=W_in (b:=b) (q:=q % b ^ t) (r:=row.take t) hb b16 fun y hy=>hrw y (List.mem_of_mem_take hy)
    have hrt:(row.take t).length=t:=by rw[List.length_take];lia
    rw[hrt] at hh
    generalize hhere:Mg.ws1 b (q % b ^ t) (row.take t)=here at hh⊢
    have step:=fun(c':Nat) (hc':c'<b)=>Mx.by_step (b:=b) (d:=d) (q:=q) (p:=p) (t:=t) (c:=c') (i:=i) (ps:=ps) (ws:=ws) (row:=row) (ns:=ns) (wt:=wt) hb hwl hp hq er ht' hc' hwt nok hcd
    rw[hhere] at step
    rw[Mx.up_two hb ht'] at hr
    rw[Mx.up_one hb ht'] at hlt
    obtain⟨N,hN⟩:∃N:Nat->Int,N=fun c'=>Mx.nrN b d ps ws ((q*b+c')*b ^ Mu.lft p (ps.drop (i+1)) (t+1)):=⟨_,rfl⟩
    have hNe:∀c',Mx.nrN b d ps ws ((q*b+c')*b ^ Mu.lft p (ps.drop (i+1)) (t+1))=N c':=fun c'=>by rw[hN]
    simp only[hNe] at step hr hlt
    have S9:=SH _ k9 kn9
    refine⟨_,rfl,_,_,_,_,rfl,rfl,SqT.of S9.fr.tp,rfl,_,rfl,by lia,by lia,D_ (n:=(b:Int).toNat) (fun c' σ H10=>∃(r':Nat) (ch:V) (v16 v17 v18:Option V),σ=[some (.ref sh),some (.int r'),some (.ref rl),some (.int d),some (.ref kn),some (.ref f),some (.int q),some (.int (((ps.take i).sum+t:Nat):Int)),some (.ref e),some (.int (i:Int)),some (.int (p:Int)),some (.int here),some (loV (Mx.lhOf ns)),some (hiV (Mx.lhOf ns)),some (.int (t:Int)),some ch,v16,v17,v18]/\Kp [kn] H3 H10/\(∃kvs,H10 kn=some (.dT kvs)/\KnOk b d ps ws kvs)/\H10 e=some (.lst (ns.map V.int))/\((ch=.non/\N c'+r'=n)\/∃c0:Nat,ch=.int c0/\c0<b/\N c0+r'=n/\(n:Int)<N (c0+1)))
     ⟨r,.non,v16,v17,v18,rfl,k9,kn9,e9,.inl ⟨rfl,hr⟩⟩ ?_ ?_⟩
    ·rintro c' σ H10 hc' ⟨r',ch,v16,v17,v18,rfl,k10,kn10,e10,hch⟩
     have hcb:c'<b:=by lia
     have ez':(0:Int)+(c':Int)=(c':Int):=Int.zero_add _
     rw[ez']
     refine⟨_,rfl,rfl,_,rfl,?_⟩
     rcases hch with⟨rfl,hr'⟩ | ⟨c0,rfl,h0,h1,h2⟩
     ·have S10:=SH _ k10 kn10
      refine iteT ⟨_,rfl,_,rfl,_,_,rfl,rfl,_,rfl,_,rfl,_,rfl,_,_,_,_,rfl,rfl,SqT.of S10.fr.tp,rfl,_,rfl,c,_,_,_,rfl,rfl,SqL.of S10.fr.hw,V_ (by rw[List.getElem?_map,hwA];rfl),_,_,rfl,rfl,.inr ⟨by lia,by lia⟩,_,_,rfl,rfl,sz (by simp),fun sp hsp=>?_⟩
      have s12:=f_ (o:=.lst [V.int (i:Int),V.int ((t:Int)+1),V.int (here+(c':Int)*wt)]) hsp
      have u12:(upd H10 sp (.lst [V.int (i:Int),V.int ((t:Int)+1),V.int (here+(c':Int)*wt)])) sp=_:=c_
      generalize upd H10 sp (.lst [V.int (i:Int),V.int ((t:Int)+1),V.int (here+(c':Int)*wt)])=H12 at s12 u12⊢
      have hst:=Me.cI_ (m:=135*(t:Int)) (x:=here) (w:=wt) (d:=c') (b:=b) hh hw9 b16 hcb
      refine⟨_,rfl,_,rfl,_,rfl,_,rfl,ps.length-(i+1),by lia,i,sh,rl,kn,f,a,c,rs,tss,b,d,ps,ws,sp,t+1,here+(c':Int)*wt,row,Mx.lhOf ns,rfl,(S10.up (Nat.zero_le i)).keep s12,u12,by lia,hrow,by lia,?_,hd,hlh,fun H13 kn13 k13=>?_⟩
      ·push_cast
       lia
      have st':=step c' hcb
      have k13':=(k10.same s12).trans k13
      have e13:H13 e=some (.lst (ns.map V.int)):=by
       obtain⟨kv,ekv,_⟩:=kn10
       exact kpL k13 (s12 _ _ ekv) (s12 _ _ e10)
      refine⟨_,rfl,_,rfl,_,_,rfl,rfl,_,rfl,ite2 (fun hl=>?_) (fun hl=>?_)⟩
      ·have hl':=of_decide_eq_true hl
       exact⟨_,rfl,r',.int (c':Int),some (.int (c':Int)),some (.ref sp),_,rfl,k13',kn13,e13,.inr ⟨c',rfl,hcb,hr',by lia⟩⟩
      ·have hl':¬ (r':Int)<Mx.fromV b d (row.drop (t+1)) ((Ma.cuts ps ws).drop (i+1)) (here+(c':Int)*wt) (Mx.lhOf ns):=fun z=>hl (decide_eq_true z)
       obtain⟨r2,hr2⟩:∃r2:Nat,(r':Int)-Mx.fromV b d (row.drop (t+1)) ((Ma.cuts ps ws).drop (i+1)) (here+(c':Int)*wt) (Mx.lhOf ns)=(r2:Int):=⟨((r':Int)-Mx.fromV b d (row.drop (t+1)) ((Ma.cuts ps ws).drop (i+1)) (here+(c':Int)*wt) (Mx.lhOf ns)).toNat,by lia⟩
       refine⟨_,rfl,_,rfl,_,_,rfl,rfl,r2,.non,some (.int (c':Int)),some (.ref sp),some (.int (Mx.fromV b d (row.drop (t+1)) ((Ma.cuts ps ws).drop (i+1)) (here+(c':Int)*wt) (Mx.lhOf ns))),?_,k13',kn13,e13,.inl ⟨rfl,by lia⟩⟩
       rw[<-hr2]
       rfl
     ·exact iteF ⟨r',.int c0,_,_,_,rfl,k10,kn10,e10,.inr ⟨c0,rfl,h0,h1,h2⟩⟩
    ·rintro σ H10 ⟨r',ch,v16,v17,v18,rfl,k10,kn10,e10,hch⟩
     have eb:(b:Int).toNat=b:=by lia
     rw[eb] at hch
     rcases hch with⟨rfl,hr'⟩ | ⟨c0,rfl,h0,h1,h2⟩
     ·exfalso
      lia
     ·have S10:=SH _ k10 kn10
      refine⟨_,rfl,_,rfl,_,rfl,_,_,_,_,rfl,rfl,SqT.of S10.fr.tp,rfl,_,rfl,c,_,_,_,rfl,rfl,SqL.of S10.fr.hw,V_ (by rw[List.getElem?_map,hwA];rfl),_,_,rfl,rfl,.inr ⟨by lia,by lia⟩,_,_,rfl,rfl,?_⟩
      refine⟨_,rfl,_,rfl,_,_,_,_,rfl,rfl,SqT.of S10.fr.tp,rfl,_,_,rfl,rfl,.inr ⟨by lia,by lia⟩,_,rfl,_,_,rfl,rfl,?_⟩
      refine⟨_,rfl,_,_,rfl,rfl,q*b+c0,r',some (.int (t:Int)),some (.int (c0:Int)),v16,v17,v18,?_,k10,kn10,e10,nok.of ?_,?_,?_,?_⟩
      ·have e1:here+(c0:Int)*wt=Mg.ws1 b ((q*b+c0) % b ^ (t+1)) (row.take (t+1)):=by
        have em:(q*b+c0) % b ^ (t+1)=q % b ^ t*b+c0:=by
         rw[Nat.pow_succ,Nat.mul_comm (b ^ t),Nat.mod_mul,Nat.mul_comm q b,Nat.mul_add_mod,Nat.mod_eq_of_lt h0,Nat.mul_add_div hb,Nat.div_eq_of_lt h0,Nat.add_zero,Nat.mul_comm b]
         lia
        rw[em,List.take_add_one,hwt,<-hhere]
        exact(Mg.hf_ b _ c0 (row.take t) wt h0).symm
       have e2:(((ps.take i).sum+(t+1):Nat):Int)=(((ps.take i).sum+t:Nat):Int)+1:=by push_cast;lia
       have e3:((q*b+c0:Nat):Int)=(q:Int)*(b:Int)+(c0:Int):=by push_cast;rfl
       rw[<-e1,e2,e3]
       rfl
      ·rw[Mx.div_part hb hp (by lia),Mx.div_part hb hp (by lia),Nat.pow_succ,Nat.mul_comm (b ^ t),<-Nat.div_div_eq_div_mul,Nat.mul_comm q b,Nat.mul_add_div hb,Nat.div_eq_of_lt h0,Nat.add_zero]
      ·rw[<-Nat.add_assoc,Nat.pow_succ]
       have:(q+1)*b<=b ^ ((ps.take i).sum+t)*b:=Nat.mul_le_mul_right _ hq
       rw[Nat.add_mul] at this
       lia
      ·rw[hNe];exact h1
      ·rw[Nat.add_assoc,hNe];exact h2
   ·rintro σ H9 ⟨q,r,v14,v15,v16,v17,v18,rfl,k9,kn9,e9,nok,hq,hr,hlt⟩
    have ep:(p:Int).toNat=p:=by lia
    rw[ep] at nok hq hr hlt⊢
    have eLp:Mu.lft p (ps.drop (i+1)) p=(ps.drop (i+1)).sum:=by unfold Mu.lft;lia
    rw[eLp] at nok hr hlt
    have ert:row.take p=row:=List.take_of_length_le (by lia)
    rw[ert]
    refine⟨_,rfl,_,rfl,e,ns,_,rfl,e9,by rcases nl with rfl | ⟨_,_,rfl⟩ <;> simp,fun e' H10 he' s10 h10=>?_⟩
    have eS:ps.sum-(ps.take (i+1)).sum=(ps.drop (i+1)).sum:=by rw[Mx.take_sum hp];lia
    have hqs:q*b ^ (ps.drop (i+1)).sum<b ^ ps.sum:=by
     have:=Mx.q_small (q:=q) (t:=p) hb hp (Nat.le_refl p) hq
     rw[eLp] at this
     exact this
    have nx:=Mx.ns_next hb hwl hp hqs er nok
    rw[Nat.mul_div_cancel _ (Nat.pow_pos hb)] at nx
    refine⟨e',_,q,r,some (.int (i:Int)),some (.int (p:Int)),some (.int (Mg.ws1 b (q % b ^ p) row)),some (loV (Mx.lhOf ns)),some (hiV (Mx.lhOf ns)),v14,v15,v16,v17,v18,?_,k9.same s10,(let ⟨kv,h1,h2⟩:=kn9;⟨kv,s10 _ _ h1,h2⟩),h10,by rw[eS];exact nx,by rw[Mx.take_sum hp];exact hq,by rw[eS];exact hr,by rw[eS];exact hlt⟩
    rw[Mx.take_sum hp]
    rfl
  ·rintro σ H4 ⟨e,ns,q,r,v9,v10,v11,v12,v13,v14,v15,v16,v17,v18,rfl,k4,kn4,e4,nok,hq,hr,hlt⟩
   have el:(natV ps).length=ps.length:=by simp[natV]
   rw[el,List.take_length] at hq hr hlt
   rw[Nat.sub_self,Nat.pow_zero,Nat.mul_one] at hr hlt
   have sc:=Mx.nrN_succ b d ps ws q
   have h01:=Mx.nrI_01 b d ps ws q
   exact⟨_,rfl,k (.int q) H4 kn4 ((k2'.same s3).trans k4) (.inr ⟨q,rfl,hq,by lia,by lia⟩)⟩
end
end Hv
namespace L2
open PySem PySem.Spec PyProof.Rows
mutual
inductive Tree(H:Hp):V->PyData->Prop
 | non:Tree H .non .none
 | bl (b:Bool):Tree H (.bl b) (.bool b)
 | int (i:Int):Tree H (.int i) (.int i)
 | str (x:Str):Tree H (.str x) (.str x)
 | lst {a:Addr} {xs:List V} {ds:List PyData} (e:H a=some (.lst xs)) (r:Trees H xs ds):Tree H (.ref a) (.list ds)
 | tup {a:Addr} {xs:List V} {ds:List PyData} (e:H a=some (.tup xs)) (r:Trees H xs ds):Tree H (.ref a) (.tuple ds)
 | emp {a:Addr} (e:H a=some (.dK [])):Tree H (.ref a) (.dict [])
inductive Trees(H:Hp):List V->List PyData->Prop
 | nil:Trees H [] []
 | cons {x:V} {xs:List V} {d:PyData} {ds:List PyData} (h:Tree H x d) (t:Trees H xs ds):Trees H (x::xs) (d::ds)
end
mutual
theorem Tree.keep{H H':Hp}(s:Same H H'):∀ {x:V} {d:PyData},Tree H x d->Tree H' x d
 | _,_,.non=>.non
 | _,_,.bl b=>.bl b
 | _,_,.int i=>.int i
 | _,_,.str x=>.str x
 | _,_,.lst e r=>.lst (s _ _ e) (Trees.keep s r)
 | _,_,.tup e r=>.tup (s _ _ e) (Trees.keep s r)
 | _,_,.emp e=>.emp (s _ _ e)
theorem Trees.keep{H H':Hp}(s:Same H H'):∀ {xs:List V} {ds:List PyData},Trees H xs ds->Trees H' xs ds
 | _,_,.nil=>.nil
 | _,_,.cons h t=>.cons (Tree.keep s h) (Trees.keep s t)
end
section
variable{P:Program}{w:World}{H:Hp}{h:Heap}
theorem dg_{a:Addr}(ok:HOk P w H h)(e:H a=some (.dK [])):Reads h (.ref a) (.dict []) [a]:=by
 obtain⟨_,_,vs,r,hd⟩:=iK_ ok e
 cases r
 obtain⟨o,es,ep,ho,hx,hdat,_,hp,_⟩:=hd
 have e0:es.toList=[]:=by
  generalize es.toList=l at hp
  cases hp
  rfl
 exact Reads.dict (kvs:=[]) (as:=[]) (bs:=[]) ho hx.1 hdat (by rw[e0];exact .nil) (by rw[e0];exact .nil)
mutual
theorem Tree.reads(ok:HOk P w H h):∀ {x:V} {d:PyData},Tree H x d->∀v,RelV x v->∃as,Reads h v d as/\∀b∈as,H b≠none
 | _,_,.non,v,r=>by cases r;exact⟨_,.none,by simp⟩
 | _,_,.bl b,v,r=>by cases r;exact⟨_,.bool b,by simp⟩
 | _,_,.int i,v,r=>by obtain⟨t,rfl⟩:=r;exact⟨_,.int i t,by simp⟩
 | _,_,.str x,v,r=>by obtain⟨t,rfl⟩:=r;exact⟨_,.str x t,by simp⟩
 | _,_,.lst (a:=a) e rs,v,r=>by
  cases r
  obtain⟨_,its,n,rv,e1⟩:=ok a _ e
  obtain⟨as,h1,h2⟩:=Trees.reads ok rs its rv
  refine⟨_,.list e1 rfl rfl (by simpa using h1),fun b hb=>?_⟩
  rcases List.mem_cons.mp hb with rfl | hb
  ·rw[e];simp
  ·exact h2 b hb
 | _,_,.tup (a:=a) e rs,v,r=>by
  cases r
  obtain⟨_,its,rv,o,e1,c,n,d⟩:=ok a _ e
  obtain⟨as,h1,h2⟩:=Trees.reads ok rs its rv
  exact⟨_,.tuple e1 c d (by simpa using h1),h2⟩
 | _,_,.emp (a:=a) e,v,r=>by
  cases r
  refine⟨_,dg_ ok e,fun b hb=>?_⟩
  have z:b=a:=by simpa using hb
  rw[z,e];simp
theorem Trees.reads(ok:HOk P w H h):∀ {xs:List V} {ds:List PyData},Trees H xs ds->∀its,Vals xs its->∃as,ReadsAll h its ds as/\∀b∈as,H b≠none
 | _,_,.nil,its,r=>by cases r;exact⟨_,.nil,by simp⟩
 | _,_,.cons q t,its,r=>by
  cases r with
  | cons r1 r2 =>
   obtain⟨as,h1,h2⟩:=Tree.reads ok q _ r1
   obtain⟨bs,h3,h4⟩:=Trees.reads ok t _ r2
   refine⟨_,.cons h1 h3,fun b hb=>?_⟩
   rcases List.mem_append.mp hb with hb | hb
   ·exact h2 b hb
   ·exact h4 b hb
end
end
section
variable{X:Cx}
theorem ReadsAll.nil_addrs{h:Heap}{vs:List Value}{as:List Addr}:ReadsAll h vs [] as->as=[]
 | .nil=>rfl
theorem bp_(hg:X.A.guards=some [])(hu:X.A.units+64<cLine):CallR X (.builtin "repr") (fun xs H Q=>∃x d,xs=[x]/\Tree H x d/\d.showable=true/\d.depth<=50/\d.shown.length<=sizeLine/\(d.hasDict=true->d=.dict [])/\Q (.str d.shown) H):=by
 intro pins s σ H xs us Q I r h
 obtain⟨x,d,rfl,t,hs,hd,hz,hn,q⟩:=h
 obtain⟨u,rfl,rx⟩:=vals1 r
 have viaRef:∀a,x=.ref a->wpAny (model X.prog X.w) X.A (call (.builtin "repr") [u]) (EP X pins σ Q) X.xe s:=fun a ea=>by
  subst ea
  obtain⟨as,h1,h2⟩:=Tree.reads I.hok t u rx
  cases rx
  have hsys:d.hasDict=true->sysModules∉as:=fun hh z=>by
   have e:=hn hh
   subst e
   cases t with
   | emp e =>
    obtain⟨_,hS,_⟩:=iK_ I.hok e
    cases h1 with
    | dict q1 q2 q3 q4 q5 =>
     have e4:=ReadsAll.nil_addrs q4
     have e5:=ReadsAll.nil_addrs q5
     subst e4 e5
     have z':sysModules=a:=by simpa using z
     rw[<-z'] at hS
     simp at hS
  refine repr_of_reads' h1 hs hsys hg (by lia) (fun b o e=>e) (fun h' tk2 tk hk=>?_) hz
  exact⟨.str d.shown,H,I.kept (t':=tk) hk,⟨_,rfl⟩,q⟩
 cases t with
 | non=>cases rx;exact P.repr_of_none ⟨.str _,H,I.tok _,⟨_,rfl⟩,q⟩
 | bl b=>cases rx;exact P.repr_of_bool ⟨.str _,H,I.tok _,⟨_,rfl⟩,q⟩
 | int i=>obtain⟨tk,rfl⟩:=rx;exact P.repr_of_int (by simpa [PyData.showable] using hs) ⟨.str _,H,I.tok _,⟨_,rfl⟩,q⟩
 | str y=>obtain⟨tk,rfl⟩:=rx;exact P.repr_of_str ⟨.str _,H,I.tok _,⟨_,rfl⟩,q⟩ hz
 | lst e rr=>exact viaRef _ rfl
 | tup e rr=>exact viaRef _ rfl
 | emp e=>exact viaRef _ rfl
end
section
variable{X:Cx}{e:Expr}{te:TE}
end
section
variable{P:Program}{w:World}{H:Hp}{h:Heap}
mutual
theorem Tree.shows(ok:HOk P w H h):∀ {x:V} {d:PyData},Tree H x d->∀v,RelV x v->d.showable=true->d.shown.length<=sizeLine->∃bs,ReadAtMost h d.depth bs/\ReprK P w bs h d.depth v d.shown
 | _,_,.non,v,r,_,_=>by
  cases r
  refine⟨[],(fun _ z=>nomatch z),?_⟩
  simp only[PyData.shown]
  exact ReprK.of_is ReprIs.none _ _ _
 | _,_,.bl b,v,r,_,_=>by
  cases r
  refine⟨[],(fun _ z=>nomatch z),?_⟩
  simp only[PyData.shown]
  exact ReprK.of_is (ReprIs.bool b) _ _ _
 | _,_,.int i,v,r,hs,_=>by
  obtain⟨t,rfl⟩:=r
  refine⟨[],(fun _ z=>nomatch z),?_⟩
  simp only[PyData.shown]
  exact ReprK.of_is (ReprIs.int t (by simpa [PyData.showable] using hs)) _ _ _
 | _,_,.str x,v,r,_,hz=>by
  obtain⟨t,rfl⟩:=r
  refine⟨[],(fun _ z=>nomatch z),?_⟩
  simp only[PyData.shown] at hz⊢
  exact ReprK.of_is (ReprIs.str x t hz) _ _ _
 | _,_,.lst (a:=a) (ds:=ds) e rs,v,r,hs,hz=>by
  cases r
  have tr:Tree H (.ref a) (.list ds):=.lst e rs
  obtain⟨as,rd,_⟩:=Tree.reads ok tr (.ref a) rfl
  obtain⟨_,its,n,rv,e1⟩:=ok a _ e
  simp only[PyData.shown] at hz
  obtain⟨bs,hb,hk⟩:=Trees.shows ok rs its rv (by simpa [PyData.showable] using hs) (fun t ht=>Nat.le_trans (listText_mem_le ht) hz)
  have far:a∉bs:=not_mem_of_deeper rd (by simp only[PyData.depth];lia) hb
  refine⟨a::bs,ReadAtMost.cons rd (by simp only[PyData.depth];lia) hb,?_⟩
  simp only[PyData.depth,PyData.shown]
  cases its with
  | nil =>
   cases rv
   cases rs
   simp only[PyData.shownAll,listText_nil]
   exact ReprK.listEmpty e1 rfl rfl
  | cons u l=>exact ReprK.list e1 rfl rfl far (by simpa using hk.length_eq) (fun i y z=>hk.item i y (by simpa using z))
 | _,_,.tup (a:=a) (ds:=ds) e rs,v,r,hs,hz=>by
  cases r
  have tr:Tree H (.ref a) (.tuple ds):=.tup e rs
  obtain⟨as,rd,_⟩:=Tree.reads ok tr (.ref a) rfl
  obtain⟨_,its,rv,o,e1,c,n,d⟩:=ok a _ e
  simp only[PyData.shown] at hz
  obtain⟨bs,hb,hk⟩:=Trees.shows ok rs its rv (by simpa [PyData.showable] using hs) (fun t ht=>Nat.le_trans (tupleText_mem_le ht) hz)
  have far:a∉bs:=not_mem_of_deeper rd (by simp only[PyData.depth];lia) hb
  refine⟨a::bs,ReadAtMost.cons rd (by simp only[PyData.depth];lia) hb,?_⟩
  simp only[PyData.depth,PyData.shown]
  exact ReprK.tuple e1 c d far (by simpa using hk)
 | _,_,.emp (a:=a) e,v,r,_,_=>by
  cases r
  have rd:=dg_ ok e
  obtain⟨_,hS,vs,rk,hd⟩:=iK_ ok e
  cases rk
  obtain⟨o,es,ep,ho,hx,hdat,_,hp,_⟩:=hd
  have e0:es.toList=[]:=by
   generalize es.toList=l at hp
   cases hp
   rfl
  refine⟨[a],ReadAtMost.cons (n:=PyData.depthKv []) rd (by simp only[PyData.depth];lia) (fun _ z=>nomatch z),?_⟩
  simp only[PyData.depth,PyData.shown]
  have nil:ReprAllK P w [] h (PyData.depthKv []) [] (PyData.shownAll []):=by simp only[PyData.shownAll];exact .nil
  refine ReprK.dict ho hx.1 hdat hS (by simp) ?_
  have z:=ReprEntriesK.of_two (prog:=P) (w:=w) (as:=[]) (h₀:=h) (d:=PyData.depthKv []) es.toList [] [] (by rw[e0];exact nil) (by rw[e0];exact nil)
  simpa [PyData.shownKv] using z
theorem Trees.shows(ok:HOk P w H h):∀ {xs:List V} {ds:List PyData},Trees H xs ds->∀its,Vals xs its->PyData.showableAll ds=true->(∀t∈PyData.shownAll ds,t.length<=sizeLine)->
  ∃bs,ReadAtMost h (PyData.depthAll ds) bs/\ReprAllK P w bs h (PyData.depthAll ds) its (PyData.shownAll ds)
 | _,_,.nil,its,r,_,_=>by
  cases r
  exact⟨[],(fun _ z=>nomatch z),by simp only[PyData.shownAll];exact .nil⟩
 | _,_,.cons q t,its,r,hs,hz=>by
  cases r with
  | cons r1 r2 =>
   simp only[PyData.showableAll,Bool.and_eq_true] at hs
   simp only[PyData.shownAll,List.mem_cons,forall_eq_or_imp] at hz
   obtain⟨b1,m1,k1⟩:=Tree.shows ok q _ r1 hs.1 hz.1
   obtain⟨b2,m2,k2⟩:=Trees.shows ok t _ r2 hs.2 hz.2
   simp only[PyData.depthAll,PyData.shownAll]
   refine⟨b1++b2,(m1.mono (Nat.le_max_left _ _)).append (m2.mono (Nat.le_max_right _ _)),?_⟩
   exact .cons ((k1.more fun b hb=>List.mem_append_left _ hb).level_le (Nat.le_max_left _ _)) (k2.more_le (fun b hb=>List.mem_append_right _ hb) (Nat.le_max_right _ _))
end
end
section
variable{X:Cx}
theorem dG_(hg:X.A.guards=some [])(hu:X.A.units+64<cLine):CallR X (.builtin "repr") (fun xs H Q=>∃x d,xs=[x]/\Tree H x d/\d.showable=true/\d.depth<=50/\d.shown.length<=sizeLine/\Q (.str d.shown) H):=by
 intro pins s σ H xs us Q I r h
 obtain⟨x,d,rfl,t,hs,hd,hz,q⟩:=h
 obtain⟨u,rfl,rx⟩:=vals1 r
 cases t with
 | non=>exact bp_ hg hu pins s σ H [.non] [u] Q I r ⟨_,_,rfl,.non,hs,hd,hz,fun z=>by simp[PyData.hasDict] at z,q⟩
 | bl b=>exact bp_ hg hu pins s σ H [.bl b] [u] Q I r ⟨_,_,rfl,.bl b,hs,hd,hz,fun z=>by simp[PyData.hasDict] at z,q⟩
 | int i=>exact bp_ hg hu pins s σ H [.int i] [u] Q I r ⟨_,_,rfl,.int i,hs,hd,hz,fun z=>by simp[PyData.hasDict] at z,q⟩
 | str y=>exact bp_ hg hu pins s σ H [.str y] [u] Q I r ⟨_,_,rfl,.str y,hs,hd,hz,fun z=>by simp[PyData.hasDict] at z,q⟩
 | emp e=>exact bp_ hg hu pins s σ H _ [u] Q I r ⟨_,_,rfl,.emp e,hs,hd,hz,fun _=>rfl,q⟩
 | lst e rs =>
  rename_i a ys ds
  cases rx
  obtain⟨as,rd,_⟩:=Tree.reads I.hok (Tree.lst e rs) (.ref a) rfl
  obtain⟨_,its,n,rv,e1⟩:=I.hok a _ e
  simp only[PyData.shown] at hz
  simp only[PyData.depth] at hd
  obtain⟨bs,hb,hk⟩:=Trees.shows I.hok rs its rv (by simpa [PyData.showable] using hs) (fun t ht=>Nat.le_trans (listText_mem_le ht) hz)
  have far:a∉bs:=not_mem_of_deeper rd (by simp only[PyData.depth];lia) hb
  have fin:∀h' (t tk:Nat),(∀b o,s.heap.get? b=some o->h'.get? b=some o)->EP X pins σ Q (.str (listText (PyData.shownAll ds)) t) {s with heap:=h',toks:=tk}:=fun h' t tk kk =>
   ⟨.str _,H,I.kept (t':=tk) kk,⟨_,rfl⟩,by simpa only[PyData.shown] using q⟩
  refine call_repr_slot (by lia) (show s.TypeIs (.ref a) "list" from⟨_,e1,rfl⟩) F.slot_list_repr.toG ?_
  cases its with
  | nil =>
   cases rv
   cases rs
   refine call_list_repr_empty ⟨_,e1,rfl⟩ e1 rfl ⟨_,_,rfl,?_⟩
   simpa only[PyData.shownAll,listText_nil] using fin s.heap _ _ fun _ _ z=>z
  | cons v l =>
   exact call_list_reprK e1 rfl rfl far (by simpa using hk.length_eq) (fun i y z=>hk.item i y (by simpa using z)) hg (fun b _=>Clear.nil b) (by show X.A.units+1+(PyData.depthAll ds+1)<cLine;lia) (fun _ _ z=>z) (fun h' t tk kk=>⟨_,_,rfl,fin h' t tk kk⟩) hz
 | tup e rs =>
  rename_i a ys ds
  cases rx
  obtain⟨as,rd,_⟩:=Tree.reads I.hok (Tree.tup e rs) (.ref a) rfl
  obtain⟨_,its,rv,o,e1,c,n,d⟩:=I.hok a _ e
  simp only[PyData.shown] at hz
  simp only[PyData.depth] at hd
  obtain⟨bs,hb,hk⟩:=Trees.shows I.hok rs its rv (by simpa [PyData.showable] using hs) (fun t ht=>Nat.le_trans (tupleText_mem_le ht) hz)
  have far:a∉bs:=not_mem_of_deeper rd (by simp only[PyData.depth];lia) hb
  refine call_repr_slot (by lia) (show s.TypeIs (.ref a) "tuple" from⟨_,e1,c⟩) F.slot_tuple_repr ?_
  exact call_tuple_reprK e1 c d far (by simpa using hk) hg (fun b _=>Clear.nil b) (by show X.A.units+1+(PyData.depthAll ds+1)<cLine;lia) (fun _ _ z=>z) (fun h' t tk kk=>⟨_,_,rfl,⟨.str _,H,I.kept (t':=tk) kk,⟨_,rfl⟩,by simpa only[PyData.shown] using q⟩⟩) hz
end
def Off(D:List Addr)(H:Hp):Hp:=fun a=>if a∈D then none else H a
theorem kf_{D:List Addr}{H:Hp}{a:Addr}{o:HO}(h:H a=some o)(n:a∉D):Off D H a=some o:=by unfold Off;rw[if_neg n];exact h
theorem nV_{D:List Addr}{H:Hp}:Same (Off D H) H:=fun a o h=>by
 unfold Off at h
 split at h
 ·cases h
 ·exact h
theorem db_{D:List Addr}{H H':Hp}(k:Hv.Kp D H H'):Same (Off D H) (Off D H'):=fun a o h=>by
 unfold Off at h⊢
 split at h
 ·cases h
 ·rename_i n
  rw[if_neg n]
  exact k a o h n
structure GD(n w:Nat)(d:PyData):Prop where
 sh:d.showable=true
 lv:d.leavesShort 40=true
 dp:d.depth<=n
 wt:d.weight<=w
def Th(H:Hp)(n w:Nat)(v:V):Prop:=∃d,Tree H v d/\GD n w d
theorem Th.keep{H H':Hp}{n w:Nat}{v:V}(t:Th H n w v)(s:Same H H'):Th H' n w v:=let ⟨d,a,b⟩:=t;⟨d,a.keep s,b⟩
theorem Th.mono{H:Hp}{n w n' w':Nat}{v:V}(t:Th H n w v)(h1:n<=n')(h2:w<=w'):Th H n' w' v :=
 let ⟨d,a,b⟩:=t;⟨d,a,b.sh,b.lv,Nat.le_trans b.dp h1,Nat.le_trans b.wt h2⟩
theorem dL_{H:Hp}{n w:Nat}:∀ {xs:List V},(∀x∈xs,Th H n w x)->∃ds,Trees H xs ds/\PyData.showableAll ds=true/\PyData.leavesShortAll 40 ds=true/\PyData.depthAll ds<=n/\PyData.weightAll ds<=xs.length*(w+1)
 | [],_=>⟨[],.nil,rfl,rfl,Nat.zero_le _,Nat.zero_le _⟩
 | x::r,h=>by
  obtain⟨d,t,g⟩:=h x List.mem_cons_self
  obtain⟨ds,ts,h1,h2,h3,h4⟩:=dL_ (xs:=r) fun y hy=>h y (List.mem_cons_of_mem _ hy)
  refine⟨d::ds,.cons t ts,?_,?_,?_,?_⟩
  ·simp only[PyData.showableAll,g.sh,h1,Bool.and_self]
  ·simp only[PyData.leavesShortAll,g.lv,h2,Bool.and_self]
  ·simp only[PyData.depthAll];have:=g.dp;lia
  ·simp only[PyData.weightAll,List.length_cons]
   have:=g.wt
   rw[Nat.add_mul,Nat.one_mul]
   lia
theorem Th.lst{H:Hp}{n w L:Nat}{a:Addr}{xs:List V}(e:H a=some (.lst xs))(h:∀x∈xs,Th H n w x)(hl:xs.length<=L):Th H (n+1) (L*(w+1)) (.ref a):=by
 obtain⟨ds,ts,h1,h2,h3,h4⟩:=dL_ h
 refine⟨.list ds,.lst e ts,?_,?_,?_,?_⟩
 ·simpa only[PyData.showable] using h1
 ·simpa only[PyData.leavesShort] using h2
 ·simp only[PyData.depth];lia
 ·simp only[PyData.weight]
  exact Nat.le_trans h4 (Nat.mul_le_mul_right _ hl)
theorem Th.tup{H:Hp}{n w L:Nat}{a:Addr}{xs:List V}(e:H a=some (.tup xs))(h:∀x∈xs,Th H n w x)(hl:xs.length<=L):Th H (n+1) (L*(w+1)) (.ref a):=by
 obtain⟨ds,ts,h1,h2,h3,h4⟩:=dL_ h
 refine⟨.tuple ds,.tup e ts,?_,?_,?_,?_⟩
 ·simpa only[PyData.showable] using h1
 ·simpa only[PyData.leavesShort] using h2
 ·simp only[PyData.depth];lia
 ·simp only[PyData.weight]
  exact Nat.le_trans h4 (Nat.mul_le_mul_right _ hl)
theorem GD.shown{n w:Nat}{d:PyData}(g:GD n w d)(hw:w<=300000):d.shown.length<=sizeLine:=by
 have h:=PyData.shown_le 40 (by decide) d g.lv
 have h2:=g.wt
 have h3:sizeLine=16777216:=by decide
 lia
theorem Th.non{H:Hp}:Th H 1 100 .non:=⟨_,.non,rfl,rfl,by decide,by decide⟩
theorem Th.bl{H:Hp}(b:Bool):Th H 1 100 (.bl b):=⟨_,.bl b,rfl,rfl,by show(0:Nat)<=1;decide,by show(0:Nat)<=100;decide⟩
theorem Th.emp{H:Hp}{a:Addr}(e:H a=some (.dK [])):Th H 1 100 (.ref a):=⟨_,.emp e,by decide +kernel,by decide +kernel,by decide,by decide⟩
end L2
namespace Hv
open PySem L2
structure PP(D:List Addr) where
 holds:Hp->V->Prop
 per:∀H H' v,Kp D H H'->holds H v->holds H' v
abbrev Le{D:List Addr}(P P':PP D):Prop:=∀H v,P.holds H v->P'.holds H v
def Cp{D:List Addr}(ps:List (Option (PP D)))(σ:St)(H:Hp):Prop:=Paired (fun(q:Option (PP D)) (o:Option V)=>∀P,q=some P->∃v,o=some v/\P.holds H v) ps σ
section
variable{X:Cx}{d:Addr}{ps:List (Option (PP [d]))}
def tT(d:Addr)(ps:List (Option (PP [d])))(P:PP [d]):TE:=fun σ H Q=>Cp ps σ H/\Store H d/\∀v H',Store H' d->Kp [d] H H'->P.holds H' v->Q v H'
abbrev ET(X:Cx)(d:Addr)(ps:List (Option (PP [d])))(e:Expr)(P:PP [d]):Prop:=PE X e (tT d ps P)
theorem weak{e:Expr}{t t':TE}(h:PE X e t)(w:∀ σ H Q,t' σ H Q->t σ H Q):PE X e t':=fun pins s σ H Q I q=>h pins s σ H Q I (w σ H Q q)
variable{e a b:Expr}{es:List Expr}{pos:Pos}{P P':PP [d]}
end
section
variable{X:Cx}{d:Addr}{ps:List (Option (PP [d]))}{e a b:Expr}{es:List Expr}{pos:Pos}
end
end Hv
namespace L2
open PySem PySem.Spec PyProof.Rows
def FlyAt(h0:Heap)(H:Hp)(h:Heap)(x:Addr)(C a0 fl:Value):Prop:=h0.get? x=none/\H x=none/\
 ∃oe vs T oT ts,h.get? x=some oe/\(oe.cls=C/\vs[0]?=some a0/\oe.dict=none)/\oe.data=.fields vs/\vs[1]?=some (.ref T)/\h0.get? T=none/\H T=none/\T≠x/\h.get? T=some oT/\oT.data=.fields ts/\ts[3]?=some fl
abbrev Fly(h0:Heap)(H:Hp)(h:Heap)(x:Addr)(C a0:Value):Prop:=FlyAt h0 H h x C a0 .none
structure Near(h0:Heap)(H:Hp)(fs:List Addr)(h h':Heap):Prop where
 keep:∀b o,h.get? b=some o->b∉fs->h0.get? b≠none\/H b≠none->h'.get? b=some o
 slot:∀b o,h.get? b=some o->b∈fs->∃sl,h'.get? b=some {o with slots:=sl}
 there:∀b o,h0.get? b≠none->h.get? b=some o->∃o',h'.get? b=some o'
theorem Near.trans{h0:Heap}{H:Hp}{fs:List Addr}{h h1 h2:Heap}(a:Near h0 H fs h h1)(b:Near h0 H fs h1 h2):Near h0 H fs h h2 :=
 ⟨fun c o e n z=>b.keep c o (a.keep c o e n z) n z,fun c o e hc=>by
  obtain⟨sl,e1⟩:=a.slot c o e hc
  obtain⟨sl2,e2⟩:=b.slot c _ e1 hc
  exact⟨sl2,e2⟩,fun c o n e=>by
  obtain⟨o1,e1⟩:=a.there c o n e
  exact b.there c o1 n e1⟩
section
variable{M:Model}{A:Around}{E:Value->Shared->Prop}{s:Shared}
theorem dB_{b0:Heap}{env:Env}{outer:List Env}{L x:Addr}{oe:Obj}{vs:Array Value}{head:Value}{had:Bool}{Q:Unit->Shared->Prop}(hfr:A.frames=some (env::outer))(hl:s.heap.FunFrames b0 (env::outer))(hf:env.frame=some L)
  (he:s.heap.get? x=some oe) (hd:oe.data=.fields vs) (hsz:1<vs.size)
  (h:∀(h':Heap) (T:Addr) (oT:Obj) (ts:Array Value),s.heap.objs.size<=T->(∀b o,s.heap.get? b=some o->b∉frs (env::outer)->b≠x->h'.get? b=some o)->(∀b o,s.heap.get? b=some o->b∈frs (env::outer)->∃sl,h'.get? b=some {o with slots:=sl})->
   h'.get? x=some (Obj.mapFields (·.setIfInBounds 1 (.ref T)) oe)->h'.get? T=some oT->oT.data=.fields ts->ts[3]?=some (rawInt L)->Q () {s with heap:=h'}) :
  wpAny M A (do let a <-frameOf env;let pl <-entryPlaceOf L had;let b <-EntryCells.newEntry head a .none (rawInt L) .none pl;setField (.ref x) 1 b) Q E s:=by
 have xf:x∉frs (env::outer):=fun hm=>by
  obtain⟨_,o,ho,hnf⟩:=hl.mem hm
  rw[he] at ho
  cases ho
  exact hnf vs hd
 refine wpAny_bind (wpAny_frameOf_fun hfr hl hf fun g ⟨gs,g1,g2⟩=>wpAny_bind (wpAny_entryPlaceOf fun pl hpl=>?_))
 unfold EntryCells.newEntry newFields
 refine wpAny_bind (wpAny_newObj_type ?_ (hpl.sizeOk5 _ _ _ _ _))
 have x1:g.get? x=some oe:=(g1 x xf).trans he
 have nT:g.objs.size≠x:=Nat.ne_of_gt (Heap.lt_size x1)
 generalize hob:({cls:=.type "traceback",data:=.fields ([head,.ref L,.none,rawInt L,.none]++(if pl.isEmpty then List.replicate 6 Value.none else pl)).toArray}:Obj)=ob
 have nf:ob.isFreed=false:=by rw[<-hob];rfl
 have x2:(g.push ob).get? x=some oe:=Heap.get?_push_of_some ob x1
 refine wpAny_setField x2 hd hsz ?_
 have dd:=Obj.data_mapFields hd (·.setIfInBounds 1 (Value.ref g.objs.size))
 have tt:((g.push ob).update x (Obj.mapFields (·.setIfInBounds 1 (Value.ref g.objs.size)))).get? g.objs.size=some ob:=(Heap.get?_update_other _ _ (Ne.symm nT)).trans (Heap.get?_push_size g nf)
 refine h _ g.objs.size ob ([head,.ref L,.none,rawInt L,.none]++(if pl.isEmpty then List.replicate 6 Value.none else pl)).toArray (by rw[gs];exact Nat.le_refl _) (fun b o e n nx=>?_) (fun b o e hb=>?_) (Heap.get?_update_self _ x2 (Obj.isFreed_of_fields dd)) tt (by rw[<-hob]) ?_
 ·exact(Heap.get?_update_other _ _ (Ne.symm nx)).trans (Heap.get?_push_of_some ob ((g1 b n).trans e))
 ·obtain⟨sl,e1⟩:=g2 b o e
  exact⟨sl,(Heap.get?_update_other _ _ (fun z:x=b=>xf (by rw[z];exact hb))).trans (Heap.get?_push_of_some ob e1)⟩
 ·first | (simp;done) | (rcases hpl with rfl | ⟨_,_,_,_,_,_,_,rfl⟩ <;> simp)
theorem hL_{h:Heap}{T:Addr}(hT:h.objs.size<=T){h0:Heap}(h0e:∀b o,h0.get? b=some o->∃o',h.get? b=some o'):h0.get? T=none:=by
 cases q:h0.get? T with
 | none=>rfl
 | some o =>
  obtain⟨o',e⟩:=h0e T o q
  exact absurd (Heap.lt_size e) (Nat.not_lt.mpr hT)
theorem hM_{h:Heap}{T:Addr}(hT:h.objs.size<=T){H:Hp}(htr:∀b o,H b=some o->∃o',h.get? b=some o'):H T=none:=by
 cases q:H T with
 | none=>rfl
 | some o =>
  obtain⟨o',e⟩:=htr T o q
  exact absurd (Heap.lt_size e) (Nat.not_lt.mpr hT)
theorem fH_{b0 h0:Heap}{H:Hp}{env:Env}{outer:List Env}{L x:Addr}{C a0:Value}{Q:Unit->Shared->Prop}(hfr:A.frames=some (env::outer))(hl:s.heap.FunFrames b0 (env::outer))(hf:env.frame=some L)
  (fl:Fly h0 H s.heap x C a0) (h0e:∀b o,h0.get? b=some o->∃o',s.heap.get? b=some o') (htr:∀b o,H b=some o->∃o',s.heap.get? b=some o')
  (h:∀h',Near h0 H (frs (env::outer)) s.heap h'->FlyAt h0 H h' x C a0 (rawInt L)->Q () {s with heap:=h'}):wpAny M A (noteFrame (.ref x) env) Q E s:=by
 obtain⟨x0,xH,oe,vs,T,oT,ts,he,⟨c1,c2,c3⟩,hd,h1,T0,TH,Tx,hT,hdT,h3⟩:=fl
 unfold noteFrame
 simp only[hf]
 refine wpAny_bind (wpAny_field he hd h1 ?_)
 rw[if_pos (by simp)]
 refine wpAny_bind (wpAny_field hT hdT h3 ?_)
 rw[if_neg (by simp[rawInt])]
 refine wpAny_bind (wpAny_setField hT hdT (Array.getElem?_eq_some_iff.mp h3).1 ?_)
 have oth:∀b,b≠T->(s.heap.update T (Obj.mapFields (·.setIfInBounds 3 Value.none))).get? b=s.heap.get? b:=fun b hb=>Heap.get?_update_other _ _ (Ne.symm hb)
 have Tf:T∉frs (env::outer):=fun hm=>by
  obtain⟨_,o,ho,nf⟩:=hl.mem hm
  rw[hT] at ho
  cases ho
  exact nf ts hdT
 have hl2:(s.heap.update T (Obj.mapFields (·.setIfInBounds 3 Value.none))).FunFrames b0 (env::outer):=hl.of_keeps fun b o e nf=>⟨o,(oth b (fun z=>by rw[z,hT] at e;cases e;exact nf ts hdT)).trans e,rfl⟩
 refine dB_ (s:={s with heap:=s.heap.update T (Obj.mapFields (·.setIfInBounds 3 Value.none))}) hfr hl2 hf ((oth x (Ne.symm Tx)).trans he) hd (Array.getElem?_eq_some_iff.mp h1).1 fun h' T' oT' ts' z0 z1 z2 z3 z4 z5 z6=>?_
 have sT:s.heap.objs.size<=T':=by
  have z0':(s.heap.update T (Obj.mapFields (·.setIfInBounds 3 Value.none))).objs.size<=T':=z0
  rw[Heap.size_after_update] at z0'
  exact z0'
 have Tx':T'≠x:=Nat.ne_of_gt (Nat.lt_of_lt_of_le (Heap.lt_size he) sT)
 refine h h' ⟨fun b o e n z=>z1 b o ((oth b (fun q=>?_)).trans e) n (fun q=>?_),fun b o e hb=>z2 b o ((oth b (fun q=>Tf (q▸hb))).trans e) hb,fun b o n e=>?_⟩ ⟨x0,xH,_,_,T',oT',ts',z3,⟨(Obj.cls_mapFields _ _).trans c1,?_,?_⟩,Obj.data_mapFields hd _,?_,hL_ sT h0e,hM_ sT htr,Tx',z4,z5,z6⟩
 ·subst q;rcases z with z | z
  ·exact z T0
  ·exact z TH
 ·subst q;rcases z with z | z
  ·exact z x0
  ·exact z xH
 ·by_cases hb:b∈frs (env::outer)
  ·obtain⟨sl,e1⟩:=z2 b o ((oth b (fun q=>Tf (q▸hb))).trans e) hb
   exact⟨_,e1⟩
  ·exact⟨o,z1 b o ((oth b (fun q=>n (by rw[q];exact T0))).trans e) hb (fun q=>n (by rw[q];exact x0))⟩
 ·rw[Array.getElem?_setIfInBounds_ne (by decide)];exact c2
 ·obtain⟨a,b,c,d⟩:=oe
  cases c <;> first | exact c3 | cases hd
 ·rw[Array.getElem?_setIfInBounds_self_of_lt (Array.getElem?_eq_some_iff.mp h1).1]
theorem iG_{b0 h0:Heap}{H:Hp}{env:Env}{outer:List Env}{L x:Addr}{oe:Obj}{vs:Array Value}{a0:Value}{Q:Unit->Shared->Prop}(hfr:A.frames=some (env::outer))(hl:s.heap.FunFrames b0 (env::outer))(hf:env.frame=some L)
  (he:s.heap.get? x=some oe) (hd:oe.data=.fields vs) (hdn:oe.dict=none) (h1:vs[1]?=some .none) (hv0:vs[0]?=some a0) (x0:h0.get? x=none) (xH:H x=none) (h0e:∀b o,h0.get? b=some o->∃o',s.heap.get? b=some o')
  (htr:∀b o,H b=some o->∃o',s.heap.get? b=some o')
  (h:∀h',Near h0 H (frs (env::outer)) s.heap h'->FlyAt h0 H h' x oe.cls a0 (rawInt L)->Q () {s with heap:=h'}):wpAny M A (noteFrame (.ref x) env) Q E s:=by
 unfold noteFrame
 simp only[hf]
 refine wpAny_bind (wpAny_field he hd h1 ?_)
 rw[if_neg (by decide)]
 refine dB_ hfr hl hf he hd (Array.getElem?_eq_some_iff.mp h1).1 fun h' T' oT' ts' sT z1 z2 z3 z4 z5 z6=>?_
 have Tx':T'≠x:=Nat.ne_of_gt (Nat.lt_of_lt_of_le (Heap.lt_size he) sT)
 refine h h' ⟨fun b o e n z=>z1 b o e n (fun q=>?_),z2,fun b o n e=>?_⟩ ⟨x0,xH,_,_,T',oT',ts',z3,⟨Obj.cls_mapFields _ _,?_,?_⟩,Obj.data_mapFields hd _,?_,hL_ sT h0e,hM_ sT htr,Tx',z4,z5,z6⟩
 ·subst q;rcases z with z | z
  ·exact z x0
  ·exact z xH
 ·by_cases hb:b∈frs (env::outer)
  ·obtain⟨sl,e1⟩:=z2 b o e hb
   exact⟨_,e1⟩
  ·exact⟨o,z1 b o e hb (fun q=>n (by rw[q];exact x0))⟩
 ·rw[Array.getElem?_setIfInBounds_ne (by decide)];exact hv0
 ·obtain⟨a,b,c,d⟩:=oe
  cases c <;> first | exact hdn | cases hd
 ·rw[Array.getElem?_setIfInBounds_self_of_lt (Array.getElem?_eq_some_iff.mp h1).1]
theorem cd_{b0 h0:Heap}{H:Hp}{l:List Env}{x:Addr}{C a0 fl:Value}{Q:Unit->Shared->Prop}(hl:s.heap.FunFrames b0 l)(f:FlyAt h0 H s.heap x C a0 fl)
  (h0e:∀b o,h0.get? b=some o->∃o',s.heap.get? b=some o') (htr:∀b o,H b=some o->∃o',s.heap.get? b=some o')
  (h:∀h',Near h0 H (frs l) s.heap h'->Fly h0 H h' x C a0->Q () {s with heap:=h'}):wpAny M A (setFlight (.ref x) none) Q E s:=by
 obtain⟨x0,xH,oe,vs,T,oT,ts,he,hc,hd,h1,T0,TH,Tx,hT,hdT,h3⟩:=f
 have sz3:3<ts.size:=(Array.getElem?_eq_some_iff.mp h3).1
 unfold setFlight
 refine wpAny_bind (wpAny_field he hd h1 ?_)
 rw[if_pos (by simp)]
 refine wpAny_setField hT hdT sz3 ?_
 have oth:∀b,b≠T->(s.heap.update T (Obj.mapFields (·.setIfInBounds 3 ((none:Option Addr).elim Value.none fun f=>rawInt f)))).get? b=s.heap.get? b:=fun b hb=>Heap.get?_update_other _ _ (Ne.symm hb)
 have Tf:T∉frs l:=fun hm=>by
  obtain⟨_,o,ho,nf⟩:=hl.mem hm
  rw[hT] at ho
  cases ho
  exact nf ts hdT
 have tt:=Heap.get?_update_self (Obj.mapFields (·.setIfInBounds 3 ((none:Option Addr).elim Value.none fun f=>rawInt f))) hT (Obj.isFreed_of_fields (Obj.data_mapFields hdT _))
 refine h _ ⟨fun b o e n z=>(oth b (fun q=>?_)).trans e,fun b o e hb=>⟨o.slots,(oth b (fun q=>Tf (q▸hb))).trans e⟩,fun b o n e=>⟨o,(oth b (fun q=>n (by rw[q];exact T0))).trans e⟩⟩ ⟨x0,xH,oe,vs,T,_,_,(oth x (Ne.symm Tx)).trans he,hc,hd,h1,T0,TH,Tx,tt,Obj.data_mapFields hdT _,?_⟩
 ·subst q;rcases z with z | z
  ·exact z T0
  ·exact z TH
 ·rw[Array.getElem?_setIfInBounds_self_of_lt sz3];rfl
theorem bN_{h h' b0:Heap}:∀ {l:List Env},h.FunFrames b0 l->(∀b o,h.get? b=some o->b∈frs l->∃sl,h'.get? b=some {o with slots:=sl})->h'.FunFrames b0 l
 | [],_,_=>trivial
 | env::l,⟨kk,⟨L,o,hf,hn,ho,hd⟩,r⟩,hs=>by
  have e:frs (env::l)=L::frs l:=by rw[frs,List.filterMap_cons,hf];rfl
  rw[e] at hs
  obtain⟨sl,e1⟩:=hs L o ho (by simp)
  exact⟨kk,⟨L,_,hf,hn,e1,hd⟩,bN_ r fun b o' eb hb=>hs b o' eb (by simp[hb])⟩
theorem iI_{P:Program}{w:World}{b0 h0:Heap}{H:Hp}{env:Env}{outer:List Env}{L x:Addr}{C a0:Value}{Q:Unit->Shared->Prop}(hfr:A.frames=some (env::outer))(hl:s.heap.FunFrames b0 (env::outer))(hf:env.frame=some L)
  (fl:Fly h0 H s.heap x C a0) (h0e:∀b o,h0.get? b=some o->∃o',s.heap.get? b=some o') (hok:HOk P w H s.heap) (hfn:∀b∈frs (env::outer),H b=none) (htr:∀b o,H b=some o->∃o',s.heap.get? b=some o')
  (h:∀h',Near h0 H (frs (env::outer)) s.heap h'->Fly h0 H h' x C a0->Q () {s with heap:=h'}):wpAny M A (leaving env (.ref x)) Q E s:=by
 unfold leaving
 refine wpAny_bind (fH_ hfr hl hf fl h0e htr fun h2 nr fa=>?_)
 refine cd_ (l:=env::outer) (bN_ hl nr.slot) fa (fun b o e=>?_) (fun b o e=>?_) fun h3 nr3 fl3=>h h3 (nr.trans nr3) fl3
 ·obtain⟨o1,e1⟩:=h0e b o e
  exact nr.there b o1 (by rw[e];exact fun z=>by cases z) e1
 ·obtain⟨o1,e1⟩:=htr b o e
  exact⟨o1,nr.keep b o1 e1 (fun z=>by rw[hfn b z] at e;cases e) (.inr (by rw[e];exact fun z=>by cases z))⟩
theorem gP_{b0 h0:Heap}{H:Hp}{env:Env}{outer:List Env}{L x:Addr}{oe:Obj}{vs:Array Value}{a0:Value}{Q:Unit->Shared->Prop}(hfr:A.frames=some (env::outer))(hl:s.heap.FunFrames b0 (env::outer))(hf:env.frame=some L)
  (he:s.heap.get? x=some oe) (hd:oe.data=.fields vs) (hdn:oe.dict=none) (h1:vs[1]?=some .none) (hv0:vs[0]?=some a0) (x0:h0.get? x=none) (xH:H x=none) (h0e:∀b o,h0.get? b=some o->∃o',s.heap.get? b=some o')
  (hfn:∀b∈frs (env::outer),H b=none) (htr:∀b o,H b=some o->∃o',s.heap.get? b=some o')
  (h:∀h',Near h0 H (frs (env::outer)) s.heap h'->Fly h0 H h' x oe.cls a0->Q () {s with heap:=h'}):wpAny M A (leaving env (.ref x)) Q E s:=by
 unfold leaving
 refine wpAny_bind (iG_ hfr hl hf he hd hdn h1 hv0 x0 xH h0e htr fun h2 nr fa=>?_)
 refine cd_ (l:=env::outer) (bN_ hl nr.slot) fa (fun b o e=>?_) (fun b o e=>?_) fun h3 nr3 fl3=>h h3 (nr.trans nr3) fl3
 ·obtain⟨o1,e1⟩:=h0e b o e
  exact nr.there b o1 (by rw[e];exact fun z=>by cases z) e1
 ·obtain⟨o1,e1⟩:=htr b o e
  exact⟨o1,nr.keep b o1 e1 (fun z=>by rw[hfn b z] at e;cases e) (.inr (by rw[e];exact fun z=>by cases z))⟩
end
theorem ObjOk.there{P:Program}{w:World}{H:Hp}{h:Heap}{a:Addr}{o:HO}(x:ObjOk P w H h a o):∃u,h.get? a=some u:=by
 cases o with
 | lst xs=>obtain⟨_,_,_,_,e⟩:=x;exact⟨_,e⟩
 | tup xs=>obtain⟨_,_,_,ob,e,_⟩:=x;exact⟨_,e⟩
 | dK kvs=>obtain⟨_,_,_,_,ob,_,_,e,_⟩:=x;exact⟨_,e⟩
 | dT kvs=>obtain⟨_,_,_,_,ob,_,_,e,_⟩:=x;exact⟨_,e⟩
 | set S n=>obtain⟨ob,_,_,_,e,_⟩:=x;exact⟨_,e⟩
 | ins C dx fs=>obtain⟨_,_,_,e,_⟩:=x;exact⟨_,e⟩
 | own y=>obtain⟨ob,e⟩:=x;exact⟨_,e⟩
 | xd fs=>obtain⟨_,⟨od,_,_,e,_⟩,_⟩:=x;exact⟨_,e⟩
 | rng lo hi=>obtain⟨_,_,_,e⟩:=x;exact⟨_,e⟩
 | frz ob u=>exact⟨_,x.1⟩
 | tbl ps=>exact⟨_,x⟩
 | met f y=>exact⟨_,x⟩
 | ext φ=>obtain⟨_,⟨o,e⟩,_⟩:=x;exact⟨_,e⟩
def CX1(P:Program)(w:World):CXT:=fun outer H s E e s'=>∃(x C:Addr) (a0:Value) (H':Hp),e=.ref x/\s'.os=s.os/\AllBare s'.gens/\Un (frs outer) [] H H' s.heap s'.heap/\HOk P w H' s'.heap/\Fly s.heap H' s'.heap x (.ref C) a0/\E (.ref C) none H'
section
variable{P:Program}{w:World}{K:PySem.W.Frag}{mg:Str->Option Value}{base:Heap}{N:List Str}{qual:Str}{scope:Scope}{f:Addr}{cd:Value}{A:Around}{outer:List Env}{s:Shared}{H:Hp}{E:XK}
theorem pt_{pins:List (Addr×Obj)}{σ:St}{H':Hp}{s':Shared}{x C:Addr}{a0:Value}(I:Inv (cxOf (CX1 P w) P w K mg base N qual scope f cd A outer s H E) pins σ H' s')(fly:Fly s.heap H' s'.heap x (.ref C) a0)(hE:E (.ref C) none H') :
  (cxOf (CX1 P w) P w K mg base N qual scope f cd A outer s H E).xe (.ref x) s':=by
 have nex:∀b:Addr,b∉(cxOf (CX1 P w) P w K mg base N qual scope f cd A outer s H E).ex:=fun b z=>absurd (show b∈([]:List Addr) from z) (by simp)
 have fsE:frs (cxOf (CX1 P w) P w K mg base N qual scope f cd A outer s H E).stack=s.heap.objs.size::frs outer:=rfl
 refine iI_ (P:=P) (w:=w) (b0:=base) (h0:=s.heap) (H:=H') I.ok.frames I.stack rfl fly (fun b o e=>I.base.there b o e (nex b)) I.hok I.stkFree (fun b o e=>(I.hok b o e).there) fun h'' ⟨k1,k2,k3⟩ fly2=>?_
 have old:∀b o,s.heap.get? b=some o->b≠s.heap.objs.size:=fun b o e=>Nat.ne_of_lt (Heap.lt_size e)
 have off:∀b o,s.heap.get? b=some o->b∉frs outer->b∉frs (cxOf (CX1 P w) P w K mg base N qual scope f cd A outer s H E).stack:=fun b o e n z=>by
  rw[fsE] at z
  rcases List.mem_cons.mp z with z | z
  ·exact old b o e z
  ·exact n z
 refine⟨x,C,a0,H',rfl,I.os,I.bare,⟨fun b o e n nb _=>?_,fun b o e n hb _=>?_,fun b o e n _=>I.base.free b o e n (nex b),fun b o e _=>?_,I.base.tups,I.base.frzs,I.base.tbls⟩,fun b o e=>?_,fly2,hE⟩
 ·exact k1 b o (I.base.keep b o e n nb (nex b)) (off b o e nb) (.inl (by rw[e];exact fun z=>by cases z))
 ·obtain⟨sl,e1⟩:=I.base.slot b o e n hb (nex b)
  obtain⟨sl2,e2⟩:=k2 b _ e1 (show b∈s.heap.objs.size::frs outer from List.mem_cons_of_mem _ hb)
  exact⟨sl2,e2⟩
 ·obtain⟨o',e1⟩:=I.base.there b o e (nex b)
  exact k3 b o' (by rw[e];exact fun z=>by cases z) e1
 ·refine(I.hok b o e).stay (fun c u hc q=>?_) (fun _ q=>q) fun _ _ q=>q
  have hcn:H' c≠none:=by
   rcases hc with hc | hc
   ·rw[hc,e];exact fun z=>by cases z
   ·rw[hc];exact fun z=>by cases z
  exact k1 c u q (fun z=>hcn (I.stkFree c z)) (.inr hcn)
theorem passes1:Passes (CX1 P w) (cxOf (CX1 P w) P w K mg base N qual scope f cd A outer s H E) E:=fun pins σ H1 s1 e s' I ⟨x,C,a0,H',he,os,bare,un,hok,fly,hE⟩=>by
 subst he
 have I':=I.call' os un hok bare (fun b z=>absurd z (by simp))
 have nex:∀b:Addr,b∉(cxOf (CX1 P w) P w K mg base N qual scope f cd A outer s H E).ex:=fun b z=>absurd (show b∈([]:List Addr) from z) (by simp)
 have older:∀b,s1.heap.get? b=none->s.heap.get? b=none:=fun b z=>by
  cases q:s.heap.get? b with
  | none=>rfl
  | some o =>
   obtain⟨o',e1⟩:=I.base.there b o q (nex b)
   rw[z] at e1;cases e1
 obtain⟨x0,xH,oe,vs,T,oT,ts,he,hc,hd,h1,T0,TH,r⟩:=fly
 exact pt_ I' ⟨older _ x0,xH,oe,vs,T,oT,ts,he,hc,hd,h1,older _ T0,TH,r⟩ hE
end
section
variable{P:Program}{w:World}{K:PySem.W.Frag}{mg:Str->Option Value}{base:Heap}{N:List Str}{qual:Str}{scope:Scope}{f:Addr}{cd:Value}{A:Around}{outer:List Env}{s:Shared}{H:Hp}{E:XK}
theorem oc_{pins:List (Addr×Obj)}{σ:St}{H1:Hp}{s1:Shared}{x C:Addr}{vs:List Value}{h':Heap}(I0:Inv (cxOf (CX1 P w) P w K mg base N qual scope f cd A outer s H E) pins σ H1 s1)(hx:Heap.MadeExcOf s1.heap h' x (.ref C) vs)(hE:E (.ref C) none H1) :
  (cxOf (CX1 P w) P w K mg base N qual scope f cd A outer s H E).xe (.ref x) {s1 with heap:=h'}:=by
 have nex:∀b:Addr,b∉(cxOf (CX1 P w) P w K mg base N qual scope f cd A outer s H E).ex:=fun b z=>absurd (show b∈([]:List Addr) from z) (by simp)
 have fsE:frs (cxOf (CX1 P w) P w K mg base N qual scope f cd A outer s H E).stack=s.heap.objs.size::frs outer:=rfl
 have I:Inv (cxOf (CX1 P w) P w K mg base N qual scope f cd A outer s H E) pins σ H1 {s1 with heap:=h'}:=I0.kept (t':=s1.toks) (h':=h') hx.keeps
 obtain⟨t,he,_,_⟩:=hx.there
 have x0:s.heap.get? x=none:=by
  cases q:s.heap.get? x with
  | none=>rfl
  | some o =>
   obtain⟨o',e1⟩:=I0.base.there x o q (nex x)
   rw[hx.new] at e1;cases e1
 have xH:H1 x=none:=by
  cases q:H1 x with
  | none=>rfl
  | some o =>
   obtain⟨o',e1⟩:=(I0.hok x o q).there
   rw[hx.new] at e1;cases e1
 refine gP_ (b0:=base) (h0:=s.heap) (H:=H1) I.ok.frames I.stack rfl he rfl rfl rfl rfl x0 xH (fun b o e=>I.base.there b o e (nex b)) I.stkFree (fun b o e=>(I.hok b o e).there) fun h'' ⟨k1,k2,k3⟩ fly2=>?_
 have old:∀b o,s.heap.get? b=some o->b≠s.heap.objs.size:=fun b o e=>Nat.ne_of_lt (Heap.lt_size e)
 have off:∀b o,s.heap.get? b=some o->b∉frs outer->b∉frs (cxOf (CX1 P w) P w K mg base N qual scope f cd A outer s H E).stack:=fun b o e n z=>by
  rw[fsE] at z
  rcases List.mem_cons.mp z with z | z
  ·exact old b o e z
  ·exact n z
 refine⟨x,C,_,H1,rfl,I.os,I.bare,⟨fun b o e n nb _=>?_,fun b o e n hb _=>?_,fun b o e n _=>I.base.free b o e n (nex b),fun b o e _=>?_,I.base.tups,I.base.frzs,I.base.tbls⟩,fun b o e=>?_,fly2,hE⟩
 ·exact k1 b o (I.base.keep b o e n nb (nex b)) (off b o e nb) (.inl (by rw[e];exact fun z=>by cases z))
 ·obtain⟨sl,e1⟩:=I.base.slot b o e n hb (nex b)
  obtain⟨sl2,e2⟩:=k2 b _ e1 (show b∈s.heap.objs.size::frs outer from List.mem_cons_of_mem _ hb)
  exact⟨sl2,e2⟩
 ·obtain⟨o',e1⟩:=I.base.there b o e (nex b)
  exact k3 b o' (by rw[e];exact fun z=>by cases z) e1
 ·refine(I.hok b o e).stay (fun c u hc q=>?_) (fun _ q=>q) fun _ _ q=>q
  have hcn:H1 c≠none:=by
   rcases hc with hc | hc
   ·rw[hc,e];exact fun z=>by cases z
   ·rw[hc];exact fun z=>by cases z
  exact k1 c u q (fun z=>hcn (I.stkFree c z)) (.inr hcn)
structure OwnE(base:Heap)(C:Addr)(newId initId B:String)(bmB:List Value):Prop where
 fb:ExcBaseFacts B newId initId bmB
 ob:∃bm N nm q bs hdct sn sub ab col dd k0 k1 k2 k3 k5 mN,base.get? C=some (excClassObj nm q C N bs bm hdct sn sub ab col dd k0 k1 k2 k3 k5 newId)/\base.Ns N mN/\mN "__init__"=none/\OwnTail base bmB bm
def oy_(E:XK)(C:Addr)(te:TE):TS:=fun _ σ H=>te σ H fun _ H1=>E (.ref C) none H1
theorem lz_{x:Str}{C:Addr}{newId initId B:String}{bmB:List Value}{e:Expr}{te:TE}{np cpos pos:Pos}(O:OwnE base C newId initId B bmB)(hg:Gl (cxOf (CX1 P w) P w K mg base N qual scope f cd A outer s H E) x)(hm:mg x=some (.ref C))
  (he:PE (cxOf (CX1 P w) P w K mg base N qual scope f cd A outer s H E) e te) (hd:(x==("__debug__":Str))=false:=by decide)
  (hs:starEach [e] (cxOf (CX1 P w) P w K mg base N qual scope f cd A outer s H E).env=[(false,eval e (cxOf (CX1 P w) P w K mg base N qual scope f cd A outer s H E).env)]:=by rfl) :
  PS (cxOf (CX1 P w) P w K mg base N qual scope f cd A outer s H E) (.Raise (some (.Call (.Name x np) [e] [] cpos)) none pos) (oy_ E C te):=by
 intro pins s1 σ H1 D I h
 obtain⟨bm,Nc,nm,q,bs,hdct,sn,sub,ab,col,dd,k0,k1,k2,k3,k5,mN,hC,hN,hni,T⟩:=O.ob
 refine wpAny_Raise_call_subT (C:=C) (nm:=nm) (q:=q) (N:=Nc) (bs:=bs) (bm:=bm) (hdct:=hdct) (sn:=sn) (sub:=sub) (ab:=ab) (col:=col) (dd:=dd) (k0:=k0) (k1:=k1) (k2:=k2) (k3:=k3) (k5:=k5) O.fb (mN:=mN) (T.hasType O.fb.hasBase) (I.ok.hd rfl) (by rw[hs];rfl) hni ?_
 refine dd_ I hg hm ⟨rfl,?_⟩ hd
 rw[hs]
 refine Calls.evalArgs_plain (Calls.spliced_cons (thn (he pins s1 σ H1 _ I h) fun v s2 ⟨y,H2,I2,ry,q2⟩=>Calls.spliced_nil ?_))
 exact⟨rfl,Nat.le_trans (show 1<=1000 by decide) (by decide),I2.bk _ _ hC,hN.keeps I2.bk,T.keeps I2.bk,fun h' e hx=>oc_ I2 hx q2⟩
end
section
variable{P:Program}{w:World}{K:PySem.W.Frag}{mg:Str->Option Value}{base:Heap}
theorem Fun.ok1{x qual:Str}{st:Stmt}{f:Addr}{fd:FuncData}{N ps:List Str}{k:Nat}{sp:Sp}(F:Fun K x qual st f fd)(S:FnScope N ps (h_ st))(len:∀vs H Q E,sp vs H Q E->vs.length=ps.length)
  (hbody:∀(cdv:Value) (A:Around) (outer:List Env) (s:Shared) (H:Hp) (vs:List V) (Q:VK) (E:XK),Room k (A.deeper (envOfC qual (h_ st) s.heap.objs.size f cdv))->sp vs H Q E->
   ∃t,PSs (cxOf (CX1 P w) P w K mg base N qual (h_ st) f cdv A outer s H E) (O_ st) t/\t {nx:=fun _ H'=>Q .non H',rt:=Q} (start N vs) H):FnOk P w K mg base (CX1 P w) (k+1) f fd ps sp:=by
 obtain⟨oc,od,kV,doc,pm,an,cdv,ct,osl,rfl,lk,hcd⟩:=F.ex
 exact ps_ lk hcd S len fun A outer s H vs Q E hr hsp=>hbody cdv A outer s H vs Q E hr hsp
theorem FnOk.up{k:Nat}{f:Addr}{fd:FuncData}{ps:List Str}{sp:Sp}(F:FnOk P w K mg base CX0 k f fd ps sp):FnOk P w K mg base (CX1 P w) k f fd ps sp :=
 ⟨F.len,fun A outer s H args us vs Q E hr he hb hv hs=>codeAny_mono (F.run A outer s H args us vs Q E hr he hb hv hs) fun r s' hq=>by
  cases r with
  | error e=>exact False.elim hq
  | ok fl=>cases fl <;> exact hq⟩
theorem ok_{C:Addr}{newId:String}{bmB:List Value}(X:K.In base)(q:PySem.W.excIn K C bmB newId=true):∃(nm qn:Str) (N:Addr) (bs bm:List Value) (hdct:Bool) (sn:List Str) (sub:List Value) (ab:Bool) (col:Option Bool) (dd:Option Addr) (k0 k1 k2 k3 k5:Option Value) (cd:ClassData),
  base.get? C=some (excClassObj nm qn C N bs bm hdct sn sub ab col dd k0 k1 k2 k3 k5 newId)/\PySem.W.clsIn K C=some cd/\cd.mro=.ref C::bm/\PySem.W.nsOkIn K N=true/\PySem.W.nsIn K N "__init__"=some none/\PySem.W.tailIn K bmB bm=true:=by
 unfold PySem.W.excIn at q
 split at q
 ·rename_i odict cl sl look
  split at q
  ·rename_i C' bm k0 k1 k2 k3 n k5 hm hs
   simp only[beq_iff_eq,Bool.and_eq_true,Bool.not_eq_true'] at q
   have ⟨⟨⟨⟨⟨eC,eN⟩,noDel⟩,ht⟩,hok⟩,hni⟩:=q
   subst eC eN
   cases cl with
   | mk nm bs mro ns qn hd sn sub ab col del =>
   have em:mro=.ref C'::bm:=hm
   have ed:del=false:=noDel
   subst em ed
   have hsl:sl=#[k0,k1,k2,k3,some (.builtin n),k5]:=by
    cases sl with
    | mk l=>exact congrArg Array.mk hs
   subst hsl
   have ec:PySem.W.clsIn K C'=some ⟨nm,bs,.ref C'::bm,ns,qn,hd,sn,sub,ab,col,false⟩:=by
    unfold PySem.W.clsIn
    rw[look]
   exact⟨nm,qn,ns,bs,bm,hd,sn,sub,ab,col,odict,k0,k1,k2,k3,k5,⟨nm,bs,.ref C'::bm,ns,qn,hd,sn,sub,ab,col,false⟩,X _ _ look,ec,rfl,hok,hni,ht⟩
  ·cases q
 ·cases q
theorem pE_{C:Addr}{newId initId B:String}{bmB:List Value}(fb:ExcBaseFacts B newId initId bmB)(X:K.In base)(q:PySem.W.excIn K C bmB newId=true):OwnE base C newId initId B bmB:=by
 obtain⟨nm,qn,ns,bs,bm,hd,sn,sub,ab,col,odict,k0,k1,k2,k3,k5,cd,a1,_,_,hok,hni,ht⟩:=ok_ X q
 exact⟨fb,bm,ns,nm,qn,bs,hd,sn,sub,ab,col,odict,k0,k1,k2,k3,k5,base.nsMap ns,a1,.of_isNs (PySem.W.isNs_of_in X hok),PySem.W.nsMap_none_of_in X hok hni,PySem.W.tail_of_in X ht⟩
end
def XP(X:Cx)(pins:List (Addr×Obj))(R:St->Addr->Hp->Prop)(e:Value)(s':Shared):Prop :=
 ∃(x C:Addr) (a0:Value) (σ:St) (H1 H':Hp) (s1:Shared),e=.ref x/\Inv X pins σ H1 s1/\s'.os=s1.os/\AllBare s'.gens/\Un (frs X.stack) [] H1 H' s1.heap s'.heap/\HOk X.prog X.w H' s'.heap/\Fly s1.heap H' s'.heap x (.ref C) a0/\R σ C H'
abbrev TX:=Ends->(St->Addr->Hp->Prop)->St->Hp->Prop
def PX(X:Cx)(st:Stmt)(t:TX):Prop :=
 ∀(pins:List (Addr×Obj)) (s:Shared) (σ:St) (H:Hp) (D:Ends) (R:St->Addr->Hp->Prop),Inv X pins σ H s->t D R σ H->wpAny (model X.prog X.w) X.A (exec st X.env) (SP X pins D) (XP X pins R) s
def PXs(X:Cx)(st:List Stmt)(t:TX):Prop :=
 ∀(pins:List (Addr×Obj)) (s:Shared) (σ:St) (H:Hp) (D:Ends) (R:St->Addr->Hp->Prop),Inv X pins σ H s->t D R σ H->wpAny (model X.prog X.w) X.A (execs st X.env) (SP X pins D) (XP X pins R) s
section
variable{X:Cx}{k:Nat}{f:Addr}{fd:FuncData}{ps:List Str}{sp:Sp}{x:Str}{p pos epos:Pos}{e:Expr}{es:List Expr}{t:TA}
def xIf(tc:TT)(t u:TX):TX:=fun D R σ H=>tc σ H fun c H1=>if c=true then t D R σ H1 else u D R σ H1
theorem pC_{c:Expr}{a b:List Stmt}{tc:TT}{ta tb:TX}(hc:PT X.nox c tc)(ha:PXs X a ta)(hb:PXs X b tb):PX X (.If c a b pos) (xIf tc ta tb):=by
 intro pins s σ H D R I h
 have hT:wpAny (model X.prog X.w) X.A (isTrue c X.env (eval c X.env)) (TP X pins σ fun d H1=>if d=true then ta D R σ H1 else tb D R σ H1) (XP X pins R) s :=
  wpAny_mono (hc pins s σ H _ (I.wish _) h) (fun d s1 ⟨H1,I1,q⟩=>⟨H1,I1.unwish,q⟩) fun _ _ z=>False.elim z
 refine wpAny_If (thn hT fun d s1 ⟨H1,I1,q1⟩=>?_)
 cases d with
 | true=>exact ha pins s1 σ H1 D R I1 q1
 | false=>exact hb pins s1 σ H1 D R I1 q1
theorem gw_{st:Stmt}{tx:TX}(h:PX X st tx):PXs X [st] tx:=fun pins s σ H D R I hw=>by
 refine wpAny_execs_cons (thn (h pins s σ H D R I hw) fun fl s1 q=>?_)
 cases fl with
 | next=>exact wpAny_execs_nil q
 | brk=>exact q
 | cont=>exact q
 | ret u=>exact q
end
section
variable{X:Cx}{pins:List (Addr×Obj)}{σ:St}{H1 H':Hp}{s1:Shared}{h h2:Heap}
theorem gK_(un:Un (frs X.stack) [] H1 H' s1.heap h)(nr:Near s1.heap H' (frs X.stack) h h2):Un (frs X.stack) [] H1 H' s1.heap h2 :=
 ⟨fun b o e n nb nx=>nr.keep b o (un.keep b o e n nb nx) nb (.inl (by rw[e];exact fun z=>by cases z)),
  fun b o e n hb nx=>by
   obtain⟨sl,e1⟩:=un.slot b o e n hb nx
   obtain⟨sl2,e2⟩:=nr.slot b _ e1 hb
   exact⟨sl2,e2⟩,
  un.free,fun b o e nx=>by
   obtain⟨o',e1⟩:=un.there b o e nx
   exact nr.there b o' (by rw[e];exact fun z=>by cases z) e1,un.tups,un.frzs,un.tbls⟩
theorem ez_{P:Program}{w:World}{h0:Heap}{fs:List Addr}(hok:HOk P w H' h)(nr:Near h0 H' fs h h2)(hfs:∀b∈fs,H' b=none):HOk P w H' h2:=fun b o e=>by
 refine(hok b o e).stay (fun c u hc q=>?_) (fun _ q=>q) fun _ _ q=>q
 have hcn:H' c≠none:=by
  rcases hc with hc | hc
  ·rw[hc,e];exact fun z=>by cases z
  ·rw[hc];exact fun z=>by cases z
 exact nr.keep c u q (fun z=>hcn (hfs c z)) (.inr hcn)
end
section
variable{X:Cx}{pins:List (Addr×Obj)}{σ:St}{H:Hp}{s:Shared}
theorem iZ_{M:Model}{A:Around}{E:Value->Shared->Prop}{i:Nat}{x:Str}{v:V}{Q:Unit->Shared->Prop}(I:Inv X pins σ H s)(hN:X.N.Nodup)(hi:X.N[i]?=some x)(hk:X.env.scope.names.lookup x=some .local)(hv:σ[i]?=some (some v))(hvis:Vis X.env.scope x)
  (hko:X.env.kindOf x=some .local) (h:∀s',Inv X pins (σ.set i none) H s'->Q () s'):wpAny M A (unbindName X.env x) Q E s:=by
 obtain⟨m,hn,hl⟩:=id I.loc
 have hcls:(X.env.scope.kind==.class || (X.env.scope.kind==.module&&X.env.locals != X.env.globals))=false:=by rw[I.ok.kind];rfl
 have hiσ:i<σ.length:=by rw[I.len];exact(List.getElem?_eq_some_iff.mp hi).1
 have cne:=I.cne
 obtain⟨u0,r0,lk⟩:=hl i x v hi hv hvis
 have hm:m x=some u0:=by
  rcases lk with⟨_,e⟩ | ⟨k,_⟩
  ·exact e
  ·rcases k with k | k
   ·rw[hko] at k;cases k
   ·rw[hko] at k;cases k
 refine wpAny_unbindName_local hko hn hm hcls fun h' u hn' hs=>?_
 obtain⟨oL,_,_,hoL,_⟩:=id hn
 have far:∀b o,X.s₀.heap.get? b=some o->b≠X.env.locals:=fun b o e=>Nat.ne_of_lt (Nat.lt_of_lt_of_le (Heap.lt_size e) I.ok.above)
 refine h _ ⟨I.ok,I.os,I.bare,⟨fun b o e n hb hx=>(hs.2 b (far b o e)).trans (I.base.keep b o e n hb hx),fun b o e n hb hx=>?_,I.base.free,fun b o e hx=>?_,I.base.tups,I.base.frzs,I.base.tbls⟩,⟨_,hn',fun j y v' e1 e2 e3=>?_⟩,fun y c e=>?_,I.free,I.freeC,fun p hp=>?_,fun b ob e=>?_,by simpa using I.len⟩
 ·obtain⟨sl,e1⟩:=I.base.slot b o e n hb hx
  exact⟨sl,(hs.2 b (far b o e)).trans e1⟩
 ·obtain⟨o',e1⟩:=I.base.there b o e hx
  exact⟨o',(hs.2 b (far b o e)).trans e1⟩
 ·by_cases hj:j=i
  ·subst hj
   rw[List.getElem?_set_self hiσ] at e2
   cases e2
  ·rw[List.getElem?_set_ne (Ne.symm hj)] at e2
   obtain⟨u',r',q⟩:=hl j y v' e1 e2 e3
   refine⟨u',r',?_⟩
   rcases q with⟨k,e⟩ | ⟨k,c,e,z⟩
   ·have ny:y≠x:=fun e=>hj (ew_ hN e1 (e▸hi))
    exact .inl ⟨k,by show(if y=x then u else m y)=some u';rw[if_neg ny];exact e⟩
   ·exact .inr ⟨k,c,e,z.sameBut hs (cne y c e)⟩
 ·obtain⟨w',z⟩:=I.cell y c e
  exact⟨w',z.sameBut hs (cne y c e)⟩
 ·obtain⟨e,n,ne,nf,d⟩:=I.pin p hp
  exact⟨(hs.2 p.1 ne).trans e,n,ne,nf,d⟩
 ·refine(I.hok b ob e).stay (fun c w' hc q=>(hs.2 c fun z=>?_).trans q) (fun _ q=>q) fun _ _ q=>q
  have hf:=I.free
  rw[<-z] at hf
  rcases hc with hc | hc
  ·rw[<-hc,hf] at e;cases e
  ·rw[hf] at hc;cases hc
end
section
variable{M:Model}{A:Around}{E:Value->Shared->Prop}
def Up(K:PySem.W.Frag)(C B:Addr):Prop:=PySem.W.mroIn K C (.ref B)=some true/\PySem.W.mroIn K B (.type "BaseException")=some true/\PySem.W.typeIn K (.ref B)=some (.type "type")
theorem iE_{K:PySem.W.Frag}{h:Heap}{g:Array GenState}{d:Drawn}{t:Nat}{os:OsState}{e C B:Addr}{oe:Obj}{Q:Bool->Shared->Prop}(X:K.In h)(u:Up K C B)(he:h.get? e=some oe)(hcls:oe.cls=.ref C)(hq:Q true ⟨h,g,d,t,os⟩):wpAny M A (excMatches (.ref e) (.ref B)) Q E ⟨h,g,d,t,os⟩:=by
 have L1:=PySem.W.looks_mroIn (M:=M) X u.1
 have L2:=PySem.W.looks_mroIn (M:=M) X u.2.1
 obtain⟨od,cd,sl,hB⟩:∃od cd sl,h.get? B=some ⟨.type "type",od,.cls cd,sl⟩:=by
  have z:=u.2.1
  have y:=u.2.2
  unfold PySem.W.mroIn PySem.W.clsIn at z
  split at z
  ·rename_i look
   unfold PySem.W.typeIn at y
   simp only[look] at y
   cases y
   exact⟨_,_,_,X _ _ look⟩
  ·cases z
 have f:=tc_notTuple
 unfold excMatches
 repeat (first | (with_reducible refine wpAny_loadPart_at he ?_;rw[hcls]) | with_reducible refine wpAny_loadPart_at hB ?_ | with_reducible refine L2.at ?_ | with_reducible refine L1.at ?_ | wp_step)
 exact hq
end
abbrev Cx.marked(X:Cx)(v:Option Value):Cx:={X with A:=X.A.mark v,calm:=false}
section
variable{X:Cx}{pins:List (Addr×Obj)}{σ:St}{H:Hp}{s:Shared}{v:Option Value}
theorem Inv.mark(I:Inv X pins σ H s)(v:Option Value):Inv (X.marked v) pins σ H s :=
 ⟨⟨I.ok.mod,I.ok.kind,I.ok.glob,I.ok.blt,I.ok.above,I.ok.inj,I.ok.has,I.ok.cab,(fun z=>by cases z),I.ok.frames,I.ok.stk,I.ok.exf,I.ok.bs,I.ok.bsz,I.ok.noex,I.ok.exfs,I.ok.funs,I.ok.frf⟩,I.os,I.bare,I.base,I.loc,I.cell,I.free,I.freeC,I.pin,I.hok,I.len⟩
theorem Inv.unmark(ok:X.Ok)(I:Inv (X.marked v) pins σ H s):Inv X pins σ H s:=⟨ok,I.os,I.bare,I.base,I.loc,I.cell,I.free,I.freeC,I.pin,I.hok,I.len⟩
def excO(x C:Addr):HO:=.ext fun h=>∃o,h.get? x=some o/\o.cls=.ref C/\o.dict=none/\∃vs,o.data=.fields vs
theorem kv_{x:Addr}{o:HO}(I:Inv X pins σ H s)(hx:H x=none)(x0:X.s₀.heap.get? x=none)(xl:x≠X.env.locals)(xc:∀y c,X.env.cells.lookup y=some c->c≠x)(xp:∀p∈X.pn++pins,p.1≠x)(ok:ObjOk X.prog X.w (upd H x o) s.heap x o):Inv X pins σ (upd H x o) s:=by
 have ne:∀b u,H b=some u->b≠x:=fun b u e z=>by rw[z,hx] at e;cases e
 have n0:∀b u,X.s₀.heap.get? b=some u->b≠x:=fun b u e z=>by rw[z,x0] at e;cases e
 refine⟨I.ok,I.os,I.bare,⟨I.base.keep,I.base.slot,fun b u e n hx'=>?_,I.base.there,fun b xs e=>?_,fun b u xs e=>?_,fun b ps e=>?_⟩,I.loc,I.cell,by rw[l_ xl.symm];exact I.free,fun y c e=>by rw[l_ (xc y c e)];exact I.freeC y c e,fun p hp=>?_,fun b u e=>?_,I.len⟩
 ·rw[l_ (n0 b u e)];exact I.base.free b u e n hx'
 ·have e1:=I.base.tups b xs e
  rw[l_ (ne b _ e1)];exact e1
 ·have e1:=I.base.frzs b u xs e
  rw[l_ (ne b _ e1)];exact e1
 ·obtain⟨more,e1⟩:=I.base.tbls b ps e
  exact⟨more,by rw[l_ (ne b _ e1)];exact e1⟩
 ·obtain⟨a1,a2,a3,a4,a5⟩:=I.pin p hp
  exact⟨a1,by rw[l_ (xp p hp)];exact a2,a3,a4,a5⟩
 ·by_cases z:b=x
  ·subst z
   rw[c_] at e
   cases e
   exact ok
  ·rw[l_ z] at e
   exact(I.hok b u e).stay (fun _ _ _ q=>q) (fun c q=>by rw[l_ (ne c _ q)];exact q) fun c xs q=>by rw[l_ (ne c _ q)];exact q
end
def tTry(K:PySem.W.Frag)(B:Addr)(ie:Nat)(tb:TX)(ts:TS):TS:=fun D σ H=>tb D (fun σ' C H'=>Up K C B/\∀x,H' x=none->ts {nx:=fun σ2 H2=>D.nx (σ2.set ie none) H2,rt:=fun _ _=>False} (σ'.set ie (some (.ref x))) (upd H' x (excO x C))) σ H
theorem oJ_{X:Cx}{body suite:List Stmt}{b₀:Stmt}{cx n:Str}{cp hp pos:Pos}{B:Addr}{ie:Nat}{tb:TX}{ts:TS}(hb:PXs X body tb)(hex:X.ex=[])(hst:X.stack=X.env::X.outer)(hfrm:X.env.frame=some X.env.locals)(hN:X.N.Nodup)(hi:X.N[ie]?=some n)
  (hloc:Loc X.env.scope n) (hk:X.env.scope.names.lookup n=some .local) (hko:X.env.kindOf n=some .local) (hvis:Vis X.env.scope n) (hg:Gl X cx) (hm:X.mg cx=some (.ref B)) (hs:∀v,PSs (X.marked v).nox (b₀::suite) ts) (hd:(cx==("__debug__":Str))=false:=by decide) :
  PS X (.Try body [.ExceptHandler (some (.Name cx cp)) (some n) (b₀::suite) hp] [] [] pos) (tTry X.K B ie tb ts):=by
 intro pins s σ H D I h
 refine wpAny_Try_except (wpAny_mono (hb pins s σ H D _ I h) (fun f s1 q=>?_) fun e s1 q=>?_)
 ·cases f with
  | next=>exact wpAny_execs_nil q
  | brk=>exact q
  | cont=>exact q
  | ret u=>exact q
 obtain⟨x,C,a0,σ1,H1,H',sc,rfl,Ic,os,bare,un,hok,fly,up,hR⟩:=q
 have nil:∀(P:Addr->Prop),∀b∈([]:List Addr),P b:=fun _ b z=>absurd z (by simp)
 have I1:Inv X pins σ1 H' s1:=Ic.call' os un hok bare (nil _)
 have fsE:frs (X.env::X.outer)=frs X.stack:=by rw[hst]
 refine fH_ (h0:=sc.heap) (H:=H') (by rw[<-hst];exact Ic.ok.frames) (by rw[<-hst];exact I1.stack) hfrm fly (fun b o e=>un.there b o e (by simp)) (fun b o e=>(hok b o e).there) fun h2 nr2 fa=>?_
 rw[fsE] at nr2
 have un2:=gK_ un nr2
 have hok2:=ez_ hok nr2 (fun b hb=>I1.stkFree b hb)
 have I2:Inv X pins σ1 H' {s1 with heap:=h2}:=Ic.call' (s':={s1 with heap:=h2}) os un2 hok2 bare (nil _)
 refine cd_ (h0:=sc.heap) (H:=H') (l:=X.stack) I2.stack fa (fun b o e=>un2.there b o e (by simp)) (fun b o e=>(hok2 b o e).there) fun h3 nr3 fly3=>?_
 have un3:=gK_ un2 nr3
 have hok3:=ez_ hok2 nr3 (fun b hb=>I2.stkFree b hb)
 have I3:Inv X pins σ1 H' {s1 with heap:=h3}:=Ic.call' (s':={s1 with heap:=h3}) os un3 hok3 bare (nil _)
 obtain⟨ox,hxo,hxc⟩:∃o,h3.get? x=some o/\o.cls=.ref C:=by
  obtain⟨_,_,oe,_,_,_,_,e1,e2,_⟩:=fly3
  exact⟨oe,e1,e2.1⟩
 refine wpAny_handleBy_cons (codeAny_handlers_test (dd_ (X:=X.marked (some (.ref x))) (I3.mark (some (.ref x))) hg hm ?_ hd)) (by intro z;cases z)
 refine iE_ I3.kIn up hxo hxc ?_
 refine codeAny_handlers_suite_as ?_
 refine cd_ (h0:=sc.heap) (H:=H') (l:=X.stack) (fl:=.none) I3.stack fly3 (fun b o e=>un3.there b o e (by simp)) (fun b o e=>(hok3 b o e).there) fun h4 nr4 fly4=>?_
 have un4:=gK_ un3 nr4
 have hok4:=ez_ hok3 nr4 (fun b hb=>I3.stkFree b hb)
 have I4:Inv X pins σ1 H' {s1 with heap:=h4}:=Ic.call' (s':={s1 with heap:=h4}) os un4 hok4 bare (nil _)
 obtain⟨x0,xH,oe4,vs4,_,_,_,e4,c4,d4,_⟩:=fly4
 have old:∀b o,sc.heap.get? b=some o->b≠x:=fun b o e z=>by rw[z,x0] at e;cases e
 have I5:Inv X pins σ1 (upd H' x (excO x C)) {s1 with heap:=h4}:=by
  refine kv_ I4 xH ?_ ?_ ?_ ?_ ⟨⟨oe4,e4,c4.1,c4.2.2,vs4,d4⟩,⟨oe4,e4⟩,fun g1 g2 ⟨o,a1,a2⟩ k=>⟨o,k o a1,a2⟩⟩
  ·cases z:X.s₀.heap.get? x with
   | none=>rfl
   | some o =>
    obtain⟨o',e'⟩:=Ic.base.there x o z (by rw[hex];simp)
    exact absurd rfl (old x o' e')
  ·obtain⟨m,⟨o,_,_,ho,_⟩,_⟩:=id Ic.loc
   exact(old _ o ho).symm
  ·intro y c e
   obtain⟨w',o,ho,_⟩:=Ic.cell y c e
   exact old _ o ho
  ·intro p hp'
   exact old _ _ (Ic.pin p hp').1
 refine bs_ I5 hN hi hloc (v:=.ref x) rfl (fun s6 I6=>?_) (.inr hk)
 refine wpAny_mono (hs (some (.ref x)) pins s6 _ _ _ ((I6.mark (some (.ref x))).wish _) (hR x xH)) (fun f s7 q7=>?_) fun _ _ z=>False.elim z
 cases f with
 | brk=>obtain⟨_,_,_,z⟩:=q7;exact z.elim
 | cont=>obtain⟨_,_,_,z⟩:=q7;exact z.elim
 | ret u=>obtain⟨_,_,_,_,_,z⟩:=q7;exact z.elim
 | next =>
  obtain⟨σ7,H7,I7w,q8⟩:=q7
  have I7:Inv X pins σ7 H7 s7:=Inv.unmark Ic.ok I7w.unwish
  have hlen:ie<σ7.length:=by rw[I7.len];exact(List.getElem?_eq_some_iff.mp hi).1
  show wpAny _ _ (bindName X.env n .none>>=fun _=>unbindBehindTheSuite X.env n hp) _ _ s7
  refine wpAny_bind (wpAny_bindName (bs_ I7 hN hi hloc (v:=.non) rfl (fun s8 I8=>?_) (.inr hk)))
  unfold unbindBehindTheSuite
  refine wpAny_onRaise (iZ_ I8 hN hi hk (v:=.non) (List.getElem?_set_self hlen) hvis hko fun s9 I9=>?_)
  rw[List.set_set] at I9
  exact⟨_,H7,I9,q8⟩
end L2
namespace L2
open PySem PySem.Spec PyProof.Rows PySem.W
structure ClsE(K:Frag)(C:Addr):Prop where
 hg:findIn K (.ref C) "__getattribute__"=some (some (.builtin "BaseException.__getattribute__"))
 hh:findIn K (.ref C) "__getattr__"=some none
 fo:findObj K C none "__class__"=some (.bind (.builtin "getset_descriptor.__get__") (.builtin "object.__class__"))
 hm:mroIn K C (.type "object")=some true
 hb:mroIn K C (.type "BaseException")=some true
section
variable{prog:Program}{w:World}{A:Around}{E:Value->Shared->Prop}{s:Shared}{K:Frag}{x C:Addr}{ox:Obj}
theorem ic_{v:Value}{b:Bool}(h:mroIn K C v=some b):∃cd,clsIn K C=some cd:=by
 unfold mroIn at h
 cases e:clsIn K C with
 | none=>rw[e] at h;cases h
 | some cd=>exact⟨cd,rfl⟩
theorem fI_{tk:Tok}{Q:Fin->Shared->Prop}(c:ClsE K C)(X:K.In s.heap)(I:PySem.W.InstAt s.heap x ox C none)(h:Q (.done (.ret (.ref C))) s):wpAny (model prog w) A (Builtin.«object.__getattribute__» ⟨[.ref x,.str "__class__" tk],[]⟩) Q E s:=by
 have L0:=I.type (M:=model prog w)
 have L1:=looks_find (M:=model prog w) X I c.fo
 obtain⟨hh,gg,d,t,os⟩:=s
 refine wpAny_bind (wpAny_pure (wpAny_bind (wpAny_pure (wpAny_bind (L0.at (wpAny_bind (L1.at ?_)))))))
 show wpAny _ _ (holding [_] (call _ _)>>=ret) _ _ _
 refine wpAny_bind (wpAny_holding (wpAny_call (class_get (s:=⟨hh,gg,d,t,os⟩) (ox:=ox) (od:=none) X I c.hm ?_)))
 exact wpAny_pure h
theorem me_{tk:Tok}{R:Result->Shared->Prop}(c:ClsE K C)(X:K.In s.heap)(I:PySem.W.InstAt s.heap x ox C none)(h:R (.ok (.ret (.ref C))) s):codeAny (model prog w) A (.call (.builtin "BaseException.__getattribute__") ⟨[.ref x,.str "__class__" tk],[]⟩) R s:=by
 have L0:=I.type (M:=model prog w)
 have L1:=looks_mroIn (M:=model prog w) X c.hb
 have LI:Looks (model prog w) s.heap (isInstance (.ref x) (.type "BaseException")) true:=L0.andThen L1
 obtain⟨hh,gg,d,t,os⟩:=s
 refine codeAny_call_builtin F.excAttr_ValueError.ga.plain F.entry_bexc_ga ?_
 have hk:builtinKind "BaseException.__getattribute__"=some .slot:=by decide +kernel
 have hsplit:splitId "BaseException.__getattribute__"=some ("BaseException","__getattribute__"):=by decide +kernel
 have ha:=F.args_bexc_ga (.ref x) (.str "__class__" tk)
 simp only[checkBuiltinCall,hk,hsplit]
 refine wpAny_bind (LI.at ?_)
 simp only[Bool.not_true,Bool.false_eq_true,if_false]
 unfold argsOk at ha
 generalize Manifest.signature? "BaseException.__getattribute__"=o at ha⊢
 cases o with
 | none=>exact wpAny_pure (fI_ (s:=⟨hh,gg,d,t,os⟩) c X I h)
 | some sig =>
  have ha':Bind.checkArgs "BaseException.__getattribute__" sig ⟨[.ref x,.str "__class__" tk],[]⟩=pure ():=ha
  show wpAny _ _ (Bind.checkArgs "BaseException.__getattribute__" sig ⟨[.ref x,.str "__class__" tk],[]⟩) _ _ _
  rw[ha']
  exact wpAny_pure (fI_ (s:=⟨hh,gg,d,t,os⟩) c X I h)
theorem kI_{Q:Option Value->Shared->Prop}(c:ClsE K C)(X:K.In s.heap)(I:PySem.W.InstAt s.heap x ox C none)(h:Q (some (.ref C)) {s with toks:=s.toks+1}):wpAny (model prog w) A (getAttr? (.ref x) "__class__") Q E s:=by
 obtain⟨hh,gg,d,t,os⟩:=s
 have L0:=I.type (M:=model prog w)
 have L1:=looks_findIn (M:=model prog w) X c.hg
 have L2:=looks_findIn (M:=model prog w) X c.hh
 unfold getAttr? getAttrBy? getAttrBy
 refine wpAny_bind (wpAny_mkText (wpAny_bind (wpAny_attempt (wpAny_holding (wpAny_bind (L0.at (wpAny_bind (L1.at ?_))))))))
 have hx2:(Value.builtin "BaseException.__getattribute__"==Value.builtin "object.__getattribute__")=false:=by decide +kernel
 have hx1:(onTheHeap (Value.ref C)&&Value.builtin "BaseException.__getattribute__"==Value.builtin "object.__getattribute__")=false:=by rw[hx2];rfl
 simp only[hx1,Bool.false_eq_true,if_false]
 unfold getAttrByItsOwn hookBefore callGetattribute boundAndCalled
 simp only[onTheHeap,if_true,Bool.false_and,Bool.false_eq_true,if_false]
 refine wpAny_bind (L2.at (wpAny_bind (wpAny_attempt (wpAny_holding ?_))))
 rw[F.excAttr_ValueError.ga.bind (.ref x)]
 refine wpAny_bind (wpAny_pure (wpAny_call (me_ (s:=⟨hh,gg,d,t+1,os⟩) c X I ?_)))
 exact handed_on rfl (wpAny_pure h)
theorem lU_(c:ClsE K C):KitX K (.ref x) (.ref C) (fun h=>∃ox,PySem.W.InstAt h x ox C none) where
 ty:=fun _ _ _ ⟨_,I⟩=>I.type
 it:=fun _ _ X _=>by
  obtain⟨cd,q⟩:=ic_ c.hm
  unfold clsIn at q
  split at q
  ·rename_i a1 a2 a3 a4 look
   intro A' Q' E' s' keep z
   unfold isType loadHead
   exact wpAny_bind (wpAny_loadPart (keep _ _ (X _ _ look)) (wpAny_pure z))
  ·cases q
 ne:=fun h tp dd its n sl X htp=>by
  obtain⟨cd,q⟩:=ic_ c.hm
  refine Bool.eq_false_iff.mpr fun same=>?_
  have e:C=tp:=Value.ref.inj (beq_iff_eq.mp same)
  subst e
  unfold clsIn at q
  split at q
  ·rename_i a1 a2 a3 a4 look
   cases (X _ _ look).symm.trans htp
  ·cases q
 ca:=fun X ⟨_,I⟩ k=>kI_ c X I k
end
section
variable{X:Cx}
theorem pu_{P:Program}{w:World}{H:Hp}{h:Heap}{x C:Addr}(ok:HOk P w H h)(e:H x=some (excO x C)):∃ox,PySem.W.InstAt h x ox C none:=by
 obtain⟨⟨o,a1,a2,a3,vs,a4⟩,_⟩:=(show ObjOk P w H h x (excO x C) from ok x _ e)
 refine⟨o,a1,a2,?_,?_⟩
 ·unfold notCls
  rw[a4]
 ·rw[a3];exact trivial
theorem fS_:CallR X (.builtin "isinstance") (fun xs H Q=>∃x C b,∃d:V,∃dv:Value,xs=[.ref x,d]/\H x=some (excO x C)/\ClsE X.K C/\(∀u,RelV d u->u=dv)/\kitOne X.K (.ref C) dv=some b/\Q (.bl b) H):=by
 intro pins s σ H xs us Q I r h
 obtain⟨x,C,b,d,dv,rfl,hx,c,hdv,e,q⟩:=h
 obtain⟨u,v,rfl,rx,ry⟩:=vals2 r
 cases (show u=Value.ref x from rx)
 cases hdv v ry
 exact kia_one (lU_ c) I.kIn (pu_ I.hok hx) e (fun z=>nomatch z) fun tk=>⟨.bl b,H,I.tok tk,rfl,q⟩
end
def spOr(a b:Sp):Sp:=fun vs H Q E=>a vs H Q E\/b vs H Q E
section
variable{P:Program}{w:World}{K:PySem.W.Frag}{mg:Str->Option Value}{base:Heap}{CX:CXT}{k:Nat}{f:Addr}{fd:FuncData}{ps:List Str}{sp sp':Sp}{x:Str}
theorem FnOk.or(F:FnOk P w K mg base CX k f fd ps sp)(G:FnOk P w K mg base CX k f fd ps sp'):FnOk P w K mg base CX k f fd ps (spOr sp sp') :=
 ⟨fun vs H Q E h=>h.elim (F.len vs H Q E) (G.len vs H Q E),fun A outer s H args us vs Q E hr he hb hv hs=>hs.elim (F.run A outer s H args us vs Q E hr he hb hv) (G.run A outer s H args us vs Q E hr he hb hv)⟩
structure Def1(P:Program)(w:World)(K:PySem.W.Frag)(mg:Str->Option Value)(base:Heap)(k:Nat)(x:Str)(ps:List Str)(sp:Sp):Prop where
 ex:∃f fd,FnOk P w K mg base (CX1 P w) k f fd ps sp/\mg x=some (.ref f)/\PySem.W.keepIn K (.ref f)=true/\Binds K fd ps []
end
section
variable{P:Program}{w:World}{K:PySem.W.Frag}{mg:Str->Option Value}{base:Heap}{N:List Str}{qual:Str}{scope:Scope}{f:Addr}{cd:Value}{A:Around}{outer:List Env}{s:Shared}{H:Hp}{E:XK}{k:Nat}{x:Str}{ps:List Str}{sp:Sp}{e:Expr}{es:List Expr}{t:TA}{p pos:Pos}
theorem mJ_(D:Def1 P w K mg base k x ps sp)(hr:Room k (cxOf (CX1 P w) P w K mg base N qual scope f cd A outer s H E).A)(hg:Gl (cxOf (CX1 P w) P w K mg base N qual scope f cd A outer s H E) x)(ha:PA (cxOf (CX1 P w) P w K mg base N qual scope f cd A outer s H E) (e::es) t)
  (hdb:(x==("__debug__":Str))=false:=by decide) (he:starEach (e::es) (cxOf (CX1 P w) P w K mg base N qual scope f cd A outer s H E).env=(false,eval e (cxOf (CX1 P w) P w K mg base N qual scope f cd A outer s H E).env)::starEach es (cxOf (CX1 P w) P w K mg base N qual scope f cd A outer s H E).env:=by rfl)
  (hpl:(backTo pos (starEach es (cxOf (CX1 P w) P w K mg base N qual scope f cd A outer s H E).env)).any (·.1)=false:=by rfl):PE (cxOf (CX1 P w) P w K mg base N qual scope f cd A outer s H E) (.Call (.Name x p) (e::es) [] pos) (tCall sp [] E t):=by
 obtain⟨f',fd,G,h1,h2,h3⟩:=D.ex
 exact jV_ G hr hg h1 h2 h3 .nil passes1 ha hdb he hpl
end
section
variable{X:Cx}{k:Nat}{x:Str}{ps:List Str}{sp:Sp}{e:Expr}{es:List Expr}{t:TA}{p pos epos:Pos}
end
end L2
namespace Hv
open PySem L2
section
variable{P:Program}{w:World}{K:PySem.W.Frag}{mg:Str->Option Value}{base h:Heap}
def cs(l:List Addr):Nat->Addr:=fun j=>l.getD j 0
end
end Hv
namespace L2
open PySem PySem.Spec PyProof.Rows
section
variable{X:Cx}{k:Nat}{f:Addr}{fd:FuncData}{ps:List Str}{sp:Sp}{x n:Str}{p pn pos apos:Pos}{e:Expr}{es:List Expr}{t:TA}{i:Nat}
def xSet(sp:Sp)(i:Nat)(t:TA):TX:=fun D R σ H=>t σ H fun vs H1=>sp vs H1 (fun v H2=>D.nx (σ.set i (some v)) H2) (fun C _ H2=>∃A,C=.ref A/\R σ A H2)
theorem mD_(D:Def1 X.prog X.w X.K X.mg X.base k x ps sp)(hN:X.N.Nodup)(hi:X.N[i]?=some n)(hx:Loc X.env.scope n)(hr:Room k X.A)(hg:Gl X x)(ha:PA X.nox (e::es) t)(hdb:(x==("__debug__":Str))=false:=by decide)(he:starEach (e::es) X.env=(false,eval e X.env)::starEach es X.env:=by rfl)(hpl:(backTo pos (starEach es X.env)).any (·.1)=false:=by rfl)
  (hs:swapsWith (.Call (.Name x p) (e::es) [] pos) (some (.Name n pn)) apos.line X.env=pure false:=by rfl) (hf:X.fn n=true\/X.env.scope.names.lookup n=some .local:=by first | exact .inl rfl | exact .inr rfl | assumption):PX X (.Assign [.Name n pn] (.Call (.Name x p) (e::es) [] pos) apos) (xSet sp i t):=by
 obtain⟨f',fd,F,hm,hk,hb⟩:=D.ex
 intro pins s σ H D R I h
 refine wpAny_Assign_Name (wpAny_Call_Name_kw (dd_ I hg hm ?_ hdb)) hs
 have hA:wpAny (model X.prog X.w) X.A (spliced (backTo pos (starEach (e::es) X.env))) (AP X pins σ fun vs H1=>sp vs H1 (fun v H2=>D.nx (σ.set i (some v)) H2) (fun C _ H2=>∃A,C=.ref A/\R σ A H2)) (XP X pins R) s :=
  wpAny_mono (ha pos pins s σ H _ (I.wish _) h) (fun us s1 ⟨vs,H1,I1,r,q⟩=>⟨vs,H1,I1.unwish,r,q⟩) fun _ _ z=>False.elim z
 refine PySem.W.callWith_K (h₀:=X.base) I.ok.mod.kin hk (thn hA fun us s1 ⟨vs,H1,I1,r,q⟩=>⟨I1.kIn,?_⟩) he hpl
 have hl:(us++[]).length=ps.length:=by rw[List.append_nil,<-r.length];exact F.len _ _ _ _ q
 have hbb:=hb s1 us I1.kIn hl
 rw[List.append_nil] at hbb
 refine wpAny_call (codeAny_mono (F.run X.A X.stack s1 H1 ⟨us,[]⟩ us vs _ _ hr I1.env0 hbb r q) fun rs s' hq=>?_)
 cases rs with
 | error er =>
  obtain⟨y,C,a0,H',ey,os,bare,un,hok,fly,A0,eA,hR⟩:=hq
  cases eA
  exact⟨y,C,a0,σ,H1,H',s1,ey,I1,os,bare,un,hok,fly,hR⟩
 | ok fl =>
  cases fl with
  | ret u =>
   obtain⟨v,H',I',rv,q'⟩:=I1.after hq
   exact bs_ I' hN hi hx rv (fun s2 I2=>⟨_,H',I2,q'⟩) hf
  | next=>exact False.elim hq
  | brk=>exact False.elim hq
  | cont=>exact False.elim hq
end
end L2
namespace Hv
open PySem L2
def NearV(b d:Nat)(ps:List Nat)(ws:List Int)(x:V):Prop:=∃n:Nat,x=.int n/\n<b ^ ps.sum/\Mx.nrI b d ps ws n=1
def aX_(C:Addr):Sp:=fun vs H _ E=>∃f a c b ps ws,∃(d:Nat) (x:V),vs=[.ref f,.int d,x]/\FrAt H f a c b ps ws/\Thing H x/\¬ NearV b d ps ws x/\∀H',Same H H'->E (.ref C) none H'
def gm_(C:Addr):Sp:=fun vs H _ E=>∃f a c b ps ws,∃(x:V),vs=[.ref f,x]/\FrAt H f a c b ps ws/\Thing H x/\¬ NearV b 0 ps ws x/\∀H',Same H H'->E (.ref C) none H'
section
variable{P:Program}{w:World}{K:PySem.W.Frag}{mg:Str->Option Value}{base:Heap}{C CN:Addr}{newId initId B:String}{bmB:List Value}
theorem fp_{f:Addr}{fd:FuncData}(F:Fun K "need_near" "need_near" bV_ f fd)(D2:Def P w K mg base 2 "is_between" ["thing","least","greatest"] cO_)(D6:Def P w K mg base 6 "how_many" ["frame"] N_)(DM:Def P w K mg base 10 "misses_by" ["frame","n"] aY_)
  (O:OwnE base C newId initId B bmB) (hm:mg "NoEven"=some (.ref C)):FnOk P w K mg base (CX1 P w) 11 f fd ["frame","d","thing"] (aX_ C):=by
 refine F.ok1 du_ (fun vs H Q E h=>?_) (fun cdv A outer s H vs Q E hr h=>?_)
 ·obtain⟨g,a,c,b,ps,ws,d,x,rfl,_⟩:=h;rfl
 ·obtain⟨g,a,c,b,ps,ws,d,x,rfl,G,tx,hx,k⟩:=h
  refine⟨_,g_ (W_ (PW.pt (do_ (aK_ (aB_ (p_ D2 hr.mo (by rfl) (a_ (pv 2) (a_ e_ (a_ (m_ R_ (p_ D6 hr.mo (by rfl) (a_ (pv 0) d_)) e_) d_))))))
   (bW_ (z_ ir_ (p_ DM hr (by rfl) (a_ (pv 0) (a_ (pv 2) d_))) (pv 1) (nomark _))))) (g_ (lz_ O (by rfl) hm aC_)) w_),?_⟩
  refine⟨_,rfl,_,rfl,g,a,c,b,ps,ws,rfl,G,fun H1 s1=>⟨_,_,rfl,rfl,x,0,_,rfl,tx.keep s1,_,rfl,?_⟩⟩
  cases e:betw x 0 (((b ^ ps.sum:Nat):Int)-1) with
  | false=>exact iteT (k H1 s1)
  | true =>
   obtain⟨n,rfl,hn⟩:∃n:Nat,x=.int n/\n<b ^ ps.sum:=by
    cases x with
    | int i =>
     simp only[betw,Bool.and_eq_true,decide_eq_true_eq] at e
     exact⟨i.toNat,by rw[Int.toNat_of_nonneg e.1],by omega⟩
    | _=>cases e
   refine iteF ⟨_,rfl,_,rfl,g,a,c,b,ps,ws,n,rfl,G.keep s1,hn,fun H2 s2=>⟨_,rfl,_,_,rfl,rfl,_,rfl,?_⟩⟩
   have e2:decide ((d:Int)<spread (ao_ b n ps ws))=true:=decide_eq_true (by
    have:¬ spread (ao_ b n ps ws)<=d:=fun z=>hx ⟨n,rfl,hn,Mx.nrI_le.mpr z⟩
    omega)
   rw[e2]
   exact iteT (k H2 (s1.trans s2))
theorem es_{f:Addr}{fd:FuncData}(F:Fun K "near_place" "near_place" by_ f fd)(D5:Def P w K mg base 5 "need_frame" ["thing"] af_)(DM:Def P w K mg base 2 "need_miss" ["thing"] bt_)(D7:Def1 P w K mg base 11 "need_near" ["frame","d","thing"] (spOr aI_ (aX_ C))):FnOk P w K mg base (CX1 P w) 12 f fd ["frame","d","n"] (aX_ C):=by
 refine F.ok1 cR_ (fun vs H Q E h=>?_) (fun cdv A outer s H vs Q E hr h=>?_)
 ·obtain⟨g,a,c,b,ps,ws,d,x,rfl,_⟩:=h;rfl
 ·obtain⟨g,a,c,b,ps,ws,d,x,rfl,G,tx,hx,k⟩:=h
  refine⟨_,b_ (I_ (p_ D5 hr.mo (by rfl) (a_ (pv 0) d_)))
   (b_ (I_ (p_ DM hr.mo (by rfl) (a_ (pv 1) d_)))
   (b_ (I_ (mJ_ D7 hr (by rfl) (a_ (pv 0) (a_ (pv 1) (a_ (pv 2) d_))))) aM_)),?_⟩
  refine⟨_,rfl,g,a,c,b,ps,ws,rfl,G,fun H1 s1=>⟨_,rfl,d,rfl,?_⟩⟩
  exact⟨_,rfl,_,rfl,_,rfl,.inr ⟨g,a,c,b,ps,ws,d,x,rfl,G.keep s1,tx.keep s1,hx,fun H2 s2=>k H2 (s1.trans s2)⟩⟩
theorem gE_{f:Addr}{fd:FuncData}(F:Fun K "place_of" "place_of" cy_ f fd)(DB:Def1 P w K mg base 12 "near_place" ["frame","d","n"] (spOr ag_ (aX_ C))):FnOk P w K mg base (CX1 P w) 13 f fd ["frame","n"] (gm_ C):=by
 refine F.ok1 fa_ (fun vs H Q E h=>?_) (fun cdv A outer s H vs Q E hr h=>?_)
 ·obtain⟨g,a,c,b,ps,ws,x,rfl,_⟩:=h;rfl
 ·obtain⟨g,a,c,b,ps,ws,x,rfl,G,tx,hx,k⟩:=h
  refine⟨_,g_ (q_ (mJ_ DB hr (by rfl) (a_ (pv 0) (a_ e_ (a_ (pv 1) d_))))),?_⟩
  exact⟨_,rfl,_,rfl,.inr ⟨g,a,c,b,ps,ws,0,x,rfl,G,tx,hx,k⟩⟩
end
structure Kind(K:PySem.W.Frag)(c:Nat->Addr)(C:Addr)(i:Nat):Prop where
 cl:ClsE K C
 lt:i<10
 kt:∀j,j<10->PySem.W.kitOne K (.ref C) (.ref (c j))=some (decide (i=j))
 kv:PySem.W.kitOne K (.ref C) (.type "ValueError")=some true
structure ErrNames(mg:Str->Option Value)(c:Nat->Addr):Prop where
 n0:mg "NoFrame"=some (.ref (c 0))
 n1:mg "NoNumber"=some (.ref (c 1))
 n2:mg "NoPart"=some (.ref (c 2))
 n3:mg "NoSum"=some (.ref (c 3))
 n4:mg "NoMiss"=some (.ref (c 4))
 n5:mg "NoEven"=some (.ref (c 5))
 n6:mg "NoFrames"=some (.ref (c 6))
 n7:mg "NoText"=some (.ref (c 7))
 n8:mg "NoName"=some (.ref (c 8))
 n9:mg "NoRow"=some (.ref (c 9))
 ve:mg "ValueError"=none
theorem on_:bootBuiltins "ValueError"=some (.type "ValueError"):=by first | exact PyProof.Rows.boot_ValueError | rfl
def tK(K:PySem.W.Frag)(c:Addr):TE:=fun σ H Q=>∃x C b,σ[0]?=some (some (.ref x))/\H x=some (excO x C)/\ClsE K C/\PySem.W.kitOne K (.ref C) (.ref c)=some b/\Q (.bl b) H
theorem pk{X:Cx}{c:Addr}{nm cn:Str}{q0 p q pos:Pos}(hi:X.mg "isinstance"=none)(hm:X.mg nm=some (.ref c))(hv:PE X (.Name cn q0) (tVar 0))(hg:Gl X "isinstance")(hg2:Gl X nm)(hd:(nm==("__debug__":Str))=false:=by decide):PE X (.Call (.Name "isinstance" p) [.Name cn q0,.Name nm q] [] pos) (tK X.K c) :=
 weak (o_ fS_ hg hi boot_isinstance (a_ hv (a_ (nH_ (v:=.ref c) hg2 hm rfl hd) d_))) fun σ H Q h=>by
  obtain⟨x,C,b,h1,h2,h3,h4,q⟩:=h
  exact⟨_,h1,x,C,b,_,_,rfl,h2,h3,fun _ r=>r,h4,q⟩
def bd_:List Str:=["frame","number","part","sum","miss","even","frames","text","name","row"]
theorem ll_:(bd_.all fun x=>PyData.canLay0 (.str x))=true:=by decide +kernel
def jq_(K:PySem.W.Frag)(c:Nat->Addr):Sp:=fun vs H Q _=>∃x C,∃i:Nat,∃wd:Str,∃w:Str,vs=[.ref x,.str w]/\PyData.canLay0 (.str w)=true/\H x=some (excO x C)/\Kind K c C i/\bd_[i]?=some wd/\∀H',Same H H'->Q (.bl (decide (wd=w))) H'
@[irreducible] def wE:Expr:=(.List [(.Constant (.str "frame") 0 ⟨314,13,314,20⟩),(.Constant (.str "number") 0 ⟨314,22,314,30⟩),(.Constant (.str "part") 0 ⟨314,32,314,38⟩),(.Constant (.str "sum") 0 ⟨314,40,314,45⟩),(.Constant (.str "miss") 0 ⟨314,47,314,53⟩),(.Constant (.str "even") 0 ⟨314,55,314,61⟩),(.Constant (.str "frames") 0 ⟨314,63,314,71⟩),(.Constant (.str "text") 0 ⟨314,73,314,79⟩),(.Constant (.str "name") 0 ⟨314,81,314,87⟩),(.Constant (.str "row") 0 ⟨314,89,314,94⟩)] ⟨314,12,314,95⟩)
theorem np_:wE=(.List [(.Constant (.str "frame") 0 ⟨314,13,314,20⟩),(.Constant (.str "number") 0 ⟨314,22,314,30⟩),(.Constant (.str "part") 0 ⟨314,32,314,38⟩),(.Constant (.str "sum") 0 ⟨314,40,314,45⟩),(.Constant (.str "miss") 0 ⟨314,47,314,53⟩),(.Constant (.str "even") 0 ⟨314,55,314,61⟩),(.Constant (.str "frames") 0 ⟨314,63,314,71⟩),(.Constant (.str "text") 0 ⟨314,73,314,79⟩),(.Constant (.str "name") 0 ⟨314,81,314,87⟩),(.Constant (.str "row") 0 ⟨314,89,314,94⟩)] ⟨314,12,314,95⟩):=by unfold wE;rfl
def ow_:TE:=fun _ H Q=>∀l,H l=none->Q (.ref l) (upd H l (.lst (bd_.map V.str)))
theorem lB_{X:Cx}:PE X wE ow_:=by
 rw[np_]
 refine weak (t:=tLst (tCons (tC (.str "frame")) (tCons (tC (.str "number")) (tCons (tC (.str "part")) (tCons (tC (.str "sum")) (tCons (tC (.str "miss")) (tCons (tC (.str "even")) (tCons (tC (.str "frames")) (tCons (tC (.str "text")) (tCons (tC (.str "name")) (tCons (tC (.str "row")) tNil))))))))))) ?_ fun σ H Q h=>⟨sz (by decide),fun l hl=>h l hl⟩
 refine s_ ?_
 refine a_ aC_ ?_
 refine a_ aC_ ?_
 refine a_ aC_ ?_
 refine a_ aC_ ?_
 refine a_ aC_ ?_
 refine a_ aC_ ?_
 refine a_ aC_ ?_
 refine a_ aC_ ?_
 refine a_ aC_ ?_
 refine a_ aC_ ?_
 exact d_
theorem mf_(a b:Str):PyData.eqv (.list [.str a]) (.list [.str b])=decide (a=b):=by
 simp[PyData.eqv,PyData.eqvAll]
 try rfl
abbrev stK(i:Nat):Stmt:=(O_ aA_).getD i (.Pass ⟨0,0,0,0⟩)
theorem lV_:O_ aA_=stK 0::stK 1::stK 2::.Assign [(.Name "words" ⟨314,4,314,9⟩)] wE ⟨314,4,314,95⟩::(O_ aA_).drop 4:=by rw[np_];rfl
section
variable{P:Program}{w:World}{K:PySem.W.Frag}{mg:Str->Option Value}{base:Heap}{c:Nat->Addr}
theorem mB_:FnScope ["e","due","kinds","words","found"] ["e","due"] (h_ aA_):=⟨rfl,rfl,rfl,by decide +kernel,rfl,by decide +kernel,by decide +kernel⟩
theorem nQ_{f:Addr}{fd:FuncData}(F:Fun K "_law_kind" "_law_kind" aA_ f fd)(T:Txt mg)(N:ErrNames mg c):FnOk P w K mg base CX0 1 f fd ["e","due"] (jq_ K c):=by
 refine F.ok mB_ (fun vs H Q E h=>?_) (fun cdv A outer s H vs Q E hr h=>?_)
 ·obtain⟨x,C,i,wd,wv,rfl,_⟩:=h;rfl
 ·obtain⟨x,C,i,wd,wv,rfl,hok,hx,kd,hw,k⟩:=h
  have hwd:PyData.canLay0 (.str wd)=true:=List.all_eq_true.mp ll_ wd (List.mem_of_getElem? hw)
  have nd:=mB_.nd
  have hu:=hr.units
  have nd2:List.Nodup (["word","kind"]:List Str):=by decide +kernel
  rw[lV_]
  refine⟨_,(b_ (i_ (i:=2) nd rfl (Or.inl rfl) (s_ (a_ (pk T.isi N.n0 (pv 0) (by rfl) (by rfl)) (a_ (pk T.isi N.n1 (pv 0) (by rfl) (by rfl)) (a_ (pk T.isi N.n2 (pv 0) (by rfl) (by rfl)) (a_ (pk T.isi N.n3 (pv 0) (by rfl) (by rfl)) d_))))))
   (b_ (i_ (i:=2) nd rfl (Or.inl rfl) (m_ cZ_ (pv 2) (s_ (a_ (pk T.isi N.n4 (pv 0) (by rfl) (by rfl)) (a_ (pk T.isi N.n5 (pv 0) (by rfl) (by rfl)) (a_ (pk T.isi N.n6 (pv 0) (by rfl) (by rfl)) d_))))))
   (b_ (i_ (i:=2) nd rfl (Or.inl rfl) (m_ cZ_ (pv 2) (s_ (a_ (pk T.isi N.n7 (pv 0) (by rfl) (by rfl)) (a_ (pk T.isi N.n8 (pv 0) (by rfl) (by rfl)) (a_ (pk T.isi N.n9 (pv 0) (by rfl) (by rfl)) d_))))))
   (b_ (i_ (i:=3) nd rfl (Or.inl rfl) lB_ (hs:=by rw[np_];rfl))
   (b_ (gx_ (i:=4) (N:=["word","kind"]) (k:=2) (fr:=[]) nd rfl (Or.inl rfl) (cmpS (sc:=h_ aA_) (NX:=["e","due","kinds","words","found"]) (k:=2) (fr:=[]) rfl rfl (by decide +kernel)) (cmpF (sc:=h_ aA_) (NX:=["e","due","kinds","words","found"]) rfl (by decide +kernel)) rfl (jQ_ (by rfl) T.zip (pv 3) (pv 2)) (fun cl C s H fp=>en_ K rfl rfl (n_ (j_ (i:=0) nd2 rfl (Or.inl rfl)) (n_ (j_ (i:=1) nd2 rfl (Or.inl rfl)) P_))) hV_ (fun cl C s H fp=>mH_ (aB_ (pv 1))) (fun cl C s H fp=>pv 0) (by rfl))
   (g_ (q_ (bY_ (o_ fS_ (by rfl) T.isi boot_isinstance (a_ (pv 0) (a_ (ep_ N.ve on_) d_))) (cr_ (aw_ (mL_ hu) (pv 4) (s_ (a_ (pv 1) d_)) (nomark _))))))))))),?_⟩
  refine⟨x,C,_,rfl,hx,kd.cl,kd.kt 0 (by decide),⟨x,C,_,rfl,hx,kd.cl,kd.kt 1 (by decide),⟨x,C,_,rfl,hx,kd.cl,kd.kt 2 (by decide),⟨x,C,_,rfl,hx,kd.cl,kd.kt 3 (by decide),⟨sz (by simp),fun l1 hl1=>?_⟩⟩⟩⟩⟩
  have s1:=f_ (o:=.lst [.bl (decide (i=0)),.bl (decide (i=1)),.bl (decide (i=2)),.bl (decide (i=3))]) hl1
  have u1:(upd H l1 (.lst [.bl (decide (i=0)),.bl (decide (i=1)),.bl (decide (i=2)),.bl (decide (i=3))])) l1=_:=c_
  generalize upd H l1 (.lst [.bl (decide (i=0)),.bl (decide (i=1)),.bl (decide (i=2)),.bl (decide (i=3))])=H1 at s1 u1⊢
  have hx2:=s1 _ _ hx
  refine⟨_,rfl,⟨x,C,_,rfl,hx2,kd.cl,kd.kt 4 (by decide),⟨x,C,_,rfl,hx2,kd.cl,kd.kt 5 (by decide),⟨x,C,_,rfl,hx2,kd.cl,kd.kt 6 (by decide),⟨sz (by simp),fun m2 hm2=>?_⟩⟩⟩⟩⟩
  have t2:=f_ (o:=.lst [.bl (decide (i=4)),.bl (decide (i=5)),.bl (decide (i=6))]) hm2
  have v2:(upd H1 m2 (.lst [.bl (decide (i=4)),.bl (decide (i=5)),.bl (decide (i=6))])) m2=_:=c_
  generalize upd H1 m2 (.lst [.bl (decide (i=4)),.bl (decide (i=5)),.bl (decide (i=6))])=G2 at t2 v2⊢
  refine⟨l1,m2,_,_,rfl,rfl,t2 _ _ u1,v2,sz (by simp),fun l2 hl2=>?_⟩
  have s2:=(s1.trans t2).trans (f_ (o:=.lst [.bl (decide (i=0)),.bl (decide (i=1)),.bl (decide (i=2)),.bl (decide (i=3)),.bl (decide (i=4)),.bl (decide (i=5)),.bl (decide (i=6))]) hl2)
  have u2:(upd G2 l2 (.lst [.bl (decide (i=0)),.bl (decide (i=1)),.bl (decide (i=2)),.bl (decide (i=3)),.bl (decide (i=4)),.bl (decide (i=5)),.bl (decide (i=6))])) l2=_:=c_
  generalize hH2:upd G2 l2 (.lst [.bl (decide (i=0)),.bl (decide (i=1)),.bl (decide (i=2)),.bl (decide (i=3)),.bl (decide (i=4)),.bl (decide (i=5)),.bl (decide (i=6))])=H2 at s2 u2
  rw[show upd G2 l2 (.lst ([.bl (decide (i=0)),.bl (decide (i=1)),.bl (decide (i=2)),.bl (decide (i=3))]++[.bl (decide (i=4)),.bl (decide (i=5)),.bl (decide (i=6))]))=H2 from hH2]
  have hx3:=s2 _ _ hx
  refine⟨_,rfl,⟨x,C,_,rfl,hx3,kd.cl,kd.kt 7 (by decide),⟨x,C,_,rfl,hx3,kd.cl,kd.kt 8 (by decide),⟨x,C,_,rfl,hx3,kd.cl,kd.kt 9 (by decide),⟨sz (by simp),fun m3 hm3=>?_⟩⟩⟩⟩⟩
  have t3:=f_ (o:=.lst [.bl (decide (i=7)),.bl (decide (i=8)),.bl (decide (i=9))]) hm3
  have v3:(upd H2 m3 (.lst [.bl (decide (i=7)),.bl (decide (i=8)),.bl (decide (i=9))])) m3=_:=c_
  generalize upd H2 m3 (.lst [.bl (decide (i=7)),.bl (decide (i=8)),.bl (decide (i=9))])=G3 at t3 v3⊢
  refine⟨l2,m3,_,_,rfl,rfl,t3 _ _ u2,v3,sz (by simp),fun l3 hl3=>?_⟩
  have s3:=(s2.trans t3).trans (f_ (o:=.lst [.bl (decide (i=0)),.bl (decide (i=1)),.bl (decide (i=2)),.bl (decide (i=3)),.bl (decide (i=4)),.bl (decide (i=5)),.bl (decide (i=6)),.bl (decide (i=7)),.bl (decide (i=8)),.bl (decide (i=9))]) hl3)
  have u3:(upd G3 l3 (.lst [.bl (decide (i=0)),.bl (decide (i=1)),.bl (decide (i=2)),.bl (decide (i=3)),.bl (decide (i=4)),.bl (decide (i=5)),.bl (decide (i=6)),.bl (decide (i=7)),.bl (decide (i=8)),.bl (decide (i=9))])) l3=_:=c_
  generalize hH3:upd G3 l3 (.lst [.bl (decide (i=0)),.bl (decide (i=1)),.bl (decide (i=2)),.bl (decide (i=3)),.bl (decide (i=4)),.bl (decide (i=5)),.bl (decide (i=6)),.bl (decide (i=7)),.bl (decide (i=8)),.bl (decide (i=9))])=H3 at s3 u3
  rw[show upd G3 l3 (.lst ([.bl (decide (i=0)),.bl (decide (i=1)),.bl (decide (i=2)),.bl (decide (i=3)),.bl (decide (i=4)),.bl (decide (i=5)),.bl (decide (i=6))]++[.bl (decide (i=7)),.bl (decide (i=8)),.bl (decide (i=9))]))=H3 from hH3]
  have ek:([.bl (decide (i=0)),.bl (decide (i=1)),.bl (decide (i=2)),.bl (decide (i=3)),.bl (decide (i=4)),.bl (decide (i=5)),.bl (decide (i=6)),.bl (decide (i=7)),.bl (decide (i=8)),.bl (decide (i=9))]:List V)=(List.range 10).map fun j=>V.bl (decide (i=j)):=rfl
  rw[ek] at u3
  intro q hq
  have s4:=s3.trans (f_ (o:=.lst (bd_.map V.str)) hq)
  have u4:(upd H3 q (.lst (bd_.map V.str))) q=_:=c_
  have k4:(upd H3 q (.lst (bd_.map V.str))) l3=_:=(f_ (o:=.lst (bd_.map V.str)) hq) _ _ u3
  generalize upd H3 q (.lst (bd_.map V.str))=H4 at s4 u4 k4⊢
  refine⟨_,rfl,_,rfl,q,l3,rfl,rfl,⟨_,SqL.of u4⟩,⟨_,SqL.of k4⟩,ia_ (K:=K) (a:=q) (b:=l3) (xs:=bd_.map V.str) (ys:=(List.range 10).map fun j=>V.bl (decide (i=j)))
   (fun m zs H'=>zs=(if i<m then [V.str wd] else [])/\Same H4 H') rfl ⟨by simp,Same.refl _⟩ (fun m zs H' _ p=>⟨SqL.of (p.2 _ _ u4),SqL.of (p.2 _ _ k4)⟩)
   (fun m zs H' hi p=>szl (by rw[p.1];split <;> simp)) ?_ ?_⟩
  ·rintro m x1 y1 zs H' t hx1 hy1 ⟨rfl,s'⟩ ht
   obtain⟨w1,hw1,rfl⟩:∃w1,bd_[m]?=some w1/\x1=.str w1:=by
    rw[List.getElem?_map] at hx1
    cases e:bd_[m]? with
    | none=>rw[e] at hx1;cases hx1
    | some d=>rw[e] at hx1;exact⟨d,rfl,(Option.some.inj hx1).symm⟩
   have hm:m<10:=(List.getElem?_eq_some_iff.mp hw1).1
   have ey:y1=V.bl (decide (i=m)):=by
    rw[List.getElem?_map,List.getElem?_range hm] at hy1
    exact(Option.some.inj hy1).symm
   subst ey
   have st:=s'.trans (f_ (o:=.tup [.str w1,.bl (decide (i=m))]) ht)
   refine⟨t,_,rfl,SqT.of c_,rfl,_,_,rfl,_,_,rfl,rfl,_,rfl,_,rfl,?_⟩
   refine ite2 (fun h=>?_) (fun h=>?_)
   ·have e:i=m:=of_decide_eq_true h
    subst e
    have ew:w1=wd:=by rw[hw] at hw1;exact(Option.some.inj hw1).symm
    subst ew
    refine⟨_,rfl,?_,st⟩
    rw[if_neg (by lia),if_pos (by lia)]
    rfl
   ·have e:¬ i=m:=fun z=>h (decide_eq_true z)
    refine⟨?_,st⟩
    by_cases h2:i<m
    ·rw[if_pos h2,if_pos (by lia)]
    ·rw[if_neg h2,if_neg (by lia)]
  rintro zs H' ⟨rfl,s'⟩ r hr'
  have hi10:i<(bd_.map V.str).length:=kd.lt
  rw[if_pos hi10]
  have s5:=s4.trans (s'.trans (f_ (o:=.lst [.str wd]) hr'))
  have u5:(upd H' r (.lst [.str wd])) r=_:=c_
  generalize upd H' r (.lst [.str wd])=H5 at s5 u5⊢
  refine⟨_,rfl,x,C,_,_,_,rfl,s5 _ _ hx,kd.cl,fun _ r=>r,kd.kv,true,rfl,iteT ?_⟩
  refine⟨_,rfl,_,rfl,sz (by simp),fun p hp=>?_⟩
  have s6:=s5.trans (f_ (o:=.lst [.str wv]) hp)
  refine⟨.list [.str wd],.list [.str wv],datL ((f_ (o:=.lst [.str wv]) hp) _ _ u5) (.cons (datS wd) .nil),datL c_ (.cons (datS wv) .nil),⟨by simp only[PyData.canLay0,PyData.canLayAll0] at hwd⊢;simp[hwd],by simp only[PyData.canLay0,PyData.canLayAll0] at hok⊢;simp[hok],by simp[PyData.depth,PyData.depthAll]⟩,?_⟩
  rw[if_neg (by decide),mf_]
  exact k _ s6
end
def jn_(c:Nat->Addr):Sp:=fun vs H Q _=>∃(door:Int) (g a' c':Addr) (b:Nat) (ps:List Nat) (ws:List Int) (d:Nat) (x:V),vs=[.int door,.ref g,.int d,x]/\FrAt H g a' c' b ps ws/\Thing H x/\((door=0/\d=0)\/door=1)/\
 (∀n:Nat,x=.int n->n<b ^ ps.sum->Mx.nrI b d ps ws n=1->∀(l:Addr) (H':Hp),Same H H'->H' l=some (.lst [.int (Mx.nrN b d ps ws n),.non])->Q (.ref l) H')/\
 (¬ NearV b d ps ws x->∀(l e:Addr) (H':Hp),Same H H'->H' l=some (.lst [.non,.ref e])->H' e=some (excO e (c 5))->Q (.ref l) H')
section
variable{P:Program}{w:World}{K:PySem.W.Frag}{mg:Str->Option Value}{base:Heap}{c:Nat->Addr}
theorem my_:FnScope ["door","frame","d","thing","found","caught","e"] ["door","frame","d","thing"] (h_ eb_):=⟨rfl,rfl,rfl,by decide +kernel,rfl,by decide +kernel,by decide +kernel⟩
theorem nM_{f:Addr}{fd:FuncData}{B:Addr}(F:Fun K "_law_told" "_law_told" eb_ f fd)(hB:mg "HalfError"=some (.ref B))(U5:Up K (c 5) B)
  (D0:Def1 P w K mg base 13 "place_of" ["frame","n"] (spOr bh_ (gm_ (c 5)))) (D1:Def1 P w K mg base 12 "near_place" ["frame","d","n"] (spOr ag_ (aX_ (c 5)))):FnOk P w K mg base CX0 14 f fd ["door","frame","d","thing"] (jn_ c):=by
 refine F.ok my_ (fun vs H Q E h=>?_) (fun cdv A outer s H vs Q E hr h=>?_)
 ·obtain⟨door,g,a,c',b,ps,ws,d,x,rfl,_⟩:=h;rfl
 ·obtain⟨door,g,a,c',b,ps,ws,d,x,rfl,G,tx,hd,kg,kb⟩:=h
  have nd:=my_.nd
  refine⟨_,b_ (i_ (i:=4) nd rfl (Or.inl rfl) ad_) (b_ (i_ (i:=5) nd rfl (Or.inl rfl) ad_)
   (b_ (oJ_ (ie:=6) (gw_ (pC_ (z_ cl_ (pv 0) e_ (nomark _)) (gw_ (mD_ (i:=4) D0 nd rfl (Or.inl rfl) hr (by rfl) (a_ (pv 1) (a_ (pv 3) d_))))
     (gw_ (mD_ (i:=4) D1 nd rfl (Or.inl rfl) hr.mo (by rfl) (a_ (pv 1) (a_ (pv 2) (a_ (pv 3) d_))))))) rfl rfl rfl nd rfl (Or.inl rfl) rfl rfl (Or.inl rfl) (by rfl) hB
     (fun v=>g_ (i_ (i:=5) nd rfl (Or.inl rfl) (pv 6))))
   (g_ (q_ (s_ (a_ (pv 4) (a_ (pv 5) d_))))))),?_⟩
  have hN:∀(v:V),(∀(l:Addr) (H':Hp),Same H H'->H' l=some (.lst [v,.non])->Q (.ref l) H')->∀H',Same H H'->tRet (tLst (tCons (tVar 4) (tCons (tVar 5) tNil))) {nx:=fun x H'=>Q V.non H',rt:=Q} [some (.int door),some (.ref g),some (.int d),some x,some v,some .non,none] H':=fun v k H' s' =>
   ⟨_,rfl,_,rfl,sz (by simp),fun l hl=>k l _ (s'.trans (f_ hl)) c_⟩
  have hE:(∀(l e:Addr) (H':Hp),Same H H'->H' l=some (.lst [.non,.ref e])->H' e=some (excO e (c 5))->Q (.ref l) H')->∀H',Same H H'->∃A,Value.ref (c 5)=Value.ref A/\Up K A B/\∀x',H' x'=none->∃u,(([some (.int door),some (.ref g),some (.int d),some x,some .non,some .non,none]:St).set 6 (some (.ref x')))[6]?=some (some u)/\tRet (tLst (tCons (tVar 4) (tCons (tVar 5) tNil))) {nx:=fun x H'=>Q V.non H',rt:=Q} (((([some (.int door),some (.ref g),some (.int d),some x,some .non,some .non,none]:St).set 6 (some (.ref x'))).set 5 (some u)).set 6 none) (upd H' x' (excO x' A)) :=
   fun k H' s'=>⟨_,rfl,U5,fun x' hx'=>⟨_,rfl,_,rfl,_,rfl,sz (by simp),fun l hl=>k l x' _ ((s'.trans (f_ hx')).trans (f_ hl)) c_ ((f_ hl) _ _ c_)⟩⟩
  by_cases hv:NearV b d ps ws x
  ·obtain⟨n,rfl,hn,hi⟩:=hv
   rcases hd with⟨rfl,rfl⟩ | rfl
   ·exact⟨_,rfl,rfl,_,rfl,iteT ⟨_,rfl,_,rfl,.inl ⟨g,a,c',b,ps,ws,n,rfl,G,hn,hi,fun H' s'=>hN _ (kg n rfl hn hi) H' s'⟩⟩⟩
   ·exact⟨_,rfl,rfl,_,rfl,iteF ⟨_,rfl,_,rfl,_,rfl,.inl ⟨g,a,c',b,ps,ws,d,n,rfl,G,hn,hi,fun H' s'=>hN _ (kg n rfl hn hi) H' s'⟩⟩⟩
  ·rcases hd with⟨rfl,rfl⟩ | rfl
   ·exact⟨_,rfl,rfl,_,rfl,iteT ⟨_,rfl,_,rfl,.inr ⟨g,a,c',b,ps,ws,x,rfl,G,tx,hv,fun H' s'=>hE (kb hv) H' s'⟩⟩⟩
   ·exact⟨_,rfl,rfl,_,rfl,iteF ⟨_,rfl,_,rfl,_,rfl,.inr ⟨g,a,c',b,ps,ws,d,x,rfl,G,tx,hv,fun H' s'=>hE (kb hv) H' s'⟩⟩⟩
end
theorem Th.intB{H:Hp}{i:Int}(h:i.natAbs<=10 ^ 30):Th H 1 200 (.int i):=by
 have hl:i.natAbs.log2<100:=by
  by_cases h0:i.natAbs=0
  ·rw[h0];decide
  ·exact(Nat.log2_lt h0).mpr (Nat.lt_of_le_of_lt h (by decide))
 refine⟨_,.int i,?_,?_,by show(0:Nat)<=1;decide,?_⟩
 ·simp only[PyData.showable,decide_eq_true_eq];lia
 ·simp only[PyData.leavesShort,decide_eq_true_eq]
  have e:=int_text_length_le10 (k:=31) (by decide) (show i.natAbs<10 ^ 31 from Nat.lt_of_le_of_lt h (by decide))
  show(Str.ofString (toString i)).length<=40
  rw[PySem.ofString_length]
  lia
 ·simp only[PyData.weight];split <;> lia
theorem Kp.wid{x:List Addr}{y:List Addr}{H H':Hp}(k:Kp x H H')(h:∀a∈x,a∈y):Kp y H H':=fun b o e n=>k b o e fun z=>n (h b z)
theorem ob_{b:Nat}{ps:List Nat}{ws:List Int}(ok:FrOk b ps ws):b ^ ps.sum<=10 ^ 29 :=
 Nat.le_trans (Nat.le_trans (Nat.pow_le_pow_left ok.b16 _) (Nat.pow_le_pow_right (by decide) ok.sum.2)) (by decide)
theorem cc_:GD 1 100 (.str ""):=⟨rfl,by decide +kernel,by decide,by decide⟩
theorem gd_5:GD 1 100 (.str "5"):=⟨by decide +kernel,by decide +kernel,by decide,by decide +kernel⟩
def dQ_:Sp:=fun vs H Q _=>∃(st sh rl kn f a c:Addr) (rs:List Addr) (tss:List (List Addr)) (b d:Nat) (ps:List Nat) (ws:List Int),vs=[.ref st,.ref f,.ref sh]/\Store H st/\ShAt H 0 sh rl kn f a c rs tss b d ps ws/\d<=4000/\a≠st/\c≠st/\∀(l:Addr) (xs:List V) (H':Hp),Store H' st->ShAt H' 0 sh rl kn f a c rs tss b d ps ws->Kp [st,kn] H H'->H' l=some (.lst xs)->l∉[st,kn]->(∀x∈xs,Th (Off [st,kn] H') 2 300 x)->Q (.ref l) H'
section
variable{P:Program}{w:World}{K:PySem.W.Frag}{mg:Str->Option Value}{base:Heap}
theorem hu_:FnScope ["store","frame","sheet","many","total","far","k","near","power","odd","other","beyond"] ["store","frame","sheet"] (h_ gu_):=⟨rfl,rfl,rfl,by decide +kernel,rfl,by decide +kernel,by decide +kernel⟩
theorem kb_{f:Addr}{fd:FuncData}(F:Fun K "_law_things" "_law_things" gu_ f fd)(T:Txt mg)(nabs:mg "abs"=none)(d_law_take:Def P w K mg base 1 "_law_take" ["store","many"] dr_)(d_law_many:Def P w K mg base 1 "_law_many" ["frame"] N_)(d_law_below:Def P w K mg base 9 "_law_below" ["sheet","n"] dU_)(d_law_by:Def P w K mg base 9 "_law_by" ["sheet","k"] spBy):FnOk P w K mg base CX0 10 f fd ["store","frame","sheet"] dQ_:=by
 refine F.ok hu_ (fun vs H Q E h=>?_) (fun cdv A outer s H vs Q E hr h=>?_)
 ·obtain⟨st,sh,rl,kn,f,a,c,rs,tss,b,d,ps,ws,rfl,_⟩:=h;rfl
 ·obtain⟨st,sh,rl,kn,f,a,c,rs,tss,b,d,ps,ws,rfl,Es,S0,hd,na,nc,k⟩:=h
  have nd:=hu_.nd
  refine⟨_,(b_ (i_ (i:=3) nd rfl (Or.inl rfl) (p_ d_law_many hr.mo (by rfl) (a_ (pv 1) d_)))
   (b_ (i_ (i:=4) nd rfl (Or.inl rfl) (p_ d_law_below hr (by rfl) (a_ (pv 2) (a_ (pv 3) d_))))
   (b_ (i_ (i:=5) nd rfl (Or.inl rfl) e_)
   (b_ (C_ PassesOwn.never rfl (y_ (by rfl) T.range (a_ e_ d_)) (j_ (i:=6) nd rfl (Or.inl rfl))
    (g_ (i_ (i:=5) nd rfl (Or.inl rfl) (m_ r_ (m_ H_ (pv 5) e_) (p_ d_law_take hr.mo (by rfl) (a_ (pv 0) (a_ e_ d_)))))))
   (b_ (i_ (i:=7) nd rfl (Or.inl rfl) (p_ d_law_by hr (by rfl) (a_ (pv 2) (a_ (m_ aN_ (pv 5) (pv 4)) d_))))
   (b_ (i_ (i:=8) nd rfl (Or.inl rfl) e_)
   (b_ (C_ PassesOwn.never rfl (y_ (by rfl) T.range (a_ (p_ d_law_take hr.mo (by rfl) (a_ (pv 0) (a_ (lenS T.len (by rfl) (ixt (pv 1) e_)) d_))) d_)) (j_ (i:=6) nd rfl (Or.inl rfl))
    (g_ (i_ (i:=8) nd rfl (Or.inl rfl) (m_ H_ (pv 8) (ixt (pv 1) e_)))))
   (b_ (i_ (i:=9) nd rfl (Or.inl rfl) (ixl (s_ (a_ ad_ (a_ cY_ (a_ cY_ (a_ (eo_ bR_ e_) (a_ aC_ (a_ aC_ (a_ (s_ (a_ (pv 7) d_)) (a_ (bD_ (a_ (pv 7) d_)) (a_ cD_ (a_ (m_ R_ e_ (m_ fm_ e_ e_)) d_))))))))))) (p_ d_law_take hr.mo (by rfl) (a_ (pv 0) (a_ e_ d_)))))
   (b_ (i_ (i:=10) nd rfl (Or.inl rfl) (ixl (s_ (a_ (m_ r_ (pv 7) (pv 8)) (a_ (m_ R_ (pv 7) (pv 8)) (a_ (m_ r_ (pv 7) e_) (a_ (m_ aN_ (pv 5) (pv 3)) d_))))) (p_ d_law_take hr.mo (by rfl) (a_ (pv 0) (a_ e_ d_)))))
   (b_ (fj_ (W_ (PW.pt (mE_ (aK_ (cB_ cu_ cu_ e_ (pv 10) (pv 3))) (jL_ (z_ lD_ (o_ mn_ (by rfl) nabs PyProof.Rows.boot_abs (a_ (pv 10) d_)) (m_ fm_ e_ e_) (nomark _))))) (g_ (i_ (i:=10) nd rfl (Or.inl rfl) (eo_ bR_ e_))) w_))
   (b_ (i_ (i:=11) nd rfl (Or.inl rfl) (m_ r_ (pv 3) (m_ H_ (p_ d_law_take hr.mo (by rfl) (a_ (pv 0) (a_ e_ d_))) (Q_ ax_ (by rfl) T.int boot_int (a_ (aw_ gA_ (pv 3) (m_ fm_ e_ e_) (nomark _)) d_)))))
   (g_ (q_ (s_ (a_ (pv 7) (a_ (p_ d_law_by hr (by rfl) (a_ (pv 2) (a_ (m_ R_ (pv 4) e_) d_))) (a_ (pv 10) (a_ (m_ aN_ (pv 5) (pv 3)) (a_ (pv 3) (a_ (pv 11) (a_ e_ (a_ (pv 9) d_)))))))))))))))))))))),?_⟩
  have ok:=S0.fr.ok
  have hp:=hG_ ok
  have hM:=ob_ ok
  have hL:2<=ws.length/\ws.length<=24:=by have:=ok.wl;have:=ok.sum;lia
  obtain⟨T0,hT0⟩:∃T0:Nat,Mx.nrN b d ps ws (b ^ ps.sum)=(T0:Int):=⟨_,(Int.toNat_of_nonneg (Mx.nrN_nn b d ps ws _)).symm⟩
  have pT:0<T0:=by have:=Mx.nrN_pos (d:=d) ok hp;lia
  refine⟨_,rfl,f,a,c,b,ps,ws,rfl,S0.fr,fun H1 s1=>?_⟩
  have S1:=S0.keep s1
  obtain⟨kv1,ekv1,_⟩:=S1.kn
  refine⟨_,rfl,_,rfl,sh,rl,kn,f,a,c,rs,tss,b,d,ps,ws,b ^ ps.sum,rfl,S1,hd,Nat.le_refl _,fun H2 kn2 k2=>?_⟩
  rw[hT0]
  have S2:=S1.kp k2 kn2
  have E2:=(Es.keep s1).kpn ekv1 k2
  have nk:kn≠st:=fun z=>by
   obtain⟨x1,x2,x3,e2⟩:=Es.keep s1
   rw[z,e2] at ekv1
   cases ekv1
  have w1:∀z∈[st],z∈[st,kn]:=by simp
  have w2:∀z∈[kn],z∈[st,kn]:=by simp
  have K2:Kp [st,kn] H H2:=(Kp.of s1).trans (k2.wid w2)
  refine⟨_,rfl,by decide,by decide,D_ (n:=(26:Int).toNat) (fun i σ H'=>∃(far:Nat) (v6:Option V),σ=[some (.ref st),some (.ref f),some (.ref sh),some (.int ((b ^ ps.sum:Nat):Int)),some (.int T0),some (.int far),v6,none,none,none,none,none]/\Store H' st/\Kp [st] H2 H') ⟨0,none,rfl,E2,Kp.refl⟩ ?_ ?_⟩
  ·rintro i σ H3 hi ⟨far,v6,rfl,E3,k3⟩
   refine⟨_,rfl,_,_,rfl,rfl,.inr ⟨by decide,by decide⟩,_,rfl,st,10,rfl,E3,by decide,by decide,fun r H4 r0 r1 E4 k4=>?_⟩
   refine⟨_,_,rfl,rfl,far*10+r.toNat,some (.int (0+(i:Int))),?_,E4,k3.trans k4⟩
   have:((far*10+r.toNat:Nat):Int)=(far:Int)*10+r:=by push_cast;lia
   rw[this]
   rfl
  rintro σ H3 ⟨far,v6,rfl,E3,k3⟩
  have S3:=S2.kst E2 na nc k3
  have K3:Kp [st,kn] H H3:=K2.trans (k3.wid w1)
  have hTI:(0:Int)<(T0:Int):=by lia
  have hfm:(far:Int) % (T0:Int)=((far % T0:Nat):Int):=by lia
  have hfl:far % T0<T0:=Nat.mod_lt _ pT
  obtain⟨kv3,ekv3,_⟩:=S3.kn
  refine⟨_,rfl,_,rfl,_,rfl,_,_,rfl,rfl,hTI,sh,rl,kn,f,a,c,rs,tss,b,d,ps,ws,far % T0,by show[V.ref sh,V.int ((far:Int) % (T0:Int))]=_;rw[hfm],S3,hd,fun v H4 kn4 k4 hv=>?_⟩
  obtain⟨m,rfl,hm,_⟩:=hv.far (by rw[hT0];lia)
  have S4:=S3.kp k4 kn4
  have E4:=E3.kpn ekv3 k4
  have K4:=K3.trans (k4.wid w2)
  refine⟨_,rfl,_,rfl,pB_ S4.fr.tp rfl ⟨c,_,rfl,.inl (SqL.of S4.fr.hw),st,_,rfl,E4,by rw[List.length_map];lia,by rw[List.length_map];lia,fun r H5 r0 r1 E5 k5=>?_⟩⟩
  rw[List.length_map] at r1
  have S5:=S4.kst E4 na nc k5
  have K5:=K4.trans (k5.wid w1)
  obtain⟨j,rfl⟩:∃j:Nat,r=(j:Int):=⟨r.toNat,by lia⟩
  refine⟨_,rfl,by lia,by lia,D_ (n:=(j:Int).toNat) (fun i σ H'=>∃(v6:Option V),σ=[some (.ref st),some (.ref f),some (.ref sh),some (.int ((b ^ ps.sum:Nat):Int)),some (.int T0),some (.int far),v6,some (.int m),some (.int ((b ^ i:Nat):Int)),none,none,none]/\H5=H') ⟨v6,rfl,rfl⟩ ?_ ?_⟩
  ·rintro i σ H' hi ⟨v6,rfl,rfl⟩
   refine⟨_,rfl,_,rfl,_,_,_,_,rfl,rfl,SqT.of S5.fr.tp,rfl,_,_,rfl,rfl,.inr ⟨by have:=ok.b2;lia,by have:=ok.b16;lia⟩,some (.int (0+(i:Int))),?_,rfl⟩
   rw[Nat.pow_succ]
   push_cast
   rfl
  rintro σ H' ⟨v6,rfl,rfl⟩
  rw[show(j:Int).toNat=j by lia]
  have hpw:b ^ j<=b ^ ps.sum:=Nat.pow_le_pow_right (by have:=ok.b2;lia) (by have:=ok.wl;lia)
  refine⟨_,rfl,_,rfl,sz (by simp),fun l1 hl1=>?_⟩
  have t6:=f_ (o:=.lst [V.int (m:Int)]) hl1
  have u6:(upd H5 l1 (.lst [V.int (m:Int)])) l1=_:=c_
  generalize upd H5 l1 (.lst [V.int (m:Int)])=H6 at t6 u6⊢
  refine⟨_,rfl,sz (by simp),fun l2 hl2=>?_⟩
  have t7:=f_ (o:=.tup [V.int (m:Int)]) hl2
  have u7:(upd H6 l2 (.tup [V.int (m:Int)])) l2=_:=c_
  generalize upd H6 l2 (.tup [V.int (m:Int)])=H7 at t7 u7⊢
  refine fun l3 hl3=>?_
  have t8:=f_ (o:=.dK []) hl3
  have u8:(upd H7 l3 (.dK [])) l3=_:=c_
  generalize upd H7 l3 (.dK [])=H8 at t8 u8⊢
  refine⟨_,_,rfl,rfl,⟨by decide,by decide,by decide⟩,_,_,rfl,rfl,sz (by simp),fun l4 hl4=>?_⟩
  obtain⟨kv5,ekv5,_⟩:=S5.kn
  have off:∀ {H'':Hp} {l:Addr},Same H5 H''->H'' l=none->l∉[st,kn]:=fun {H'' l} s' hl z=>by
   rcases List.mem_cons.mp z with rfl | z
   ·exact(E5.keep s').off hl rfl
   ·rw[List.mem_singleton.mp z,s' _ _ ekv5] at hl
    cases hl
  have T8:=(t6.trans t7).trans t8
  have hm30:Th (Off [st,kn] H8) 1 200 (.int (m:Int)):=Th.intB (by lia)
  have hod:∀x∈[V.non,V.bl true,V.bl false,V.int (-1),V.str "5",V.str "",V.ref l1,V.ref l2,V.ref l3,V.int (0-10 ^ (25:Int).toNat)],Th (Off [st,kn] H8) 2 300 x:=fun x hx=>by
   simp only[List.mem_cons,List.not_mem_nil,or_false] at hx
   rcases hx with rfl | rfl | rfl | rfl | rfl | rfl | rfl | rfl | rfl | rfl
   ·exact Th.non.mono (by decide) (by decide)
   ·exact(Th.bl true).mono (by decide) (by decide)
   ·exact(Th.bl false).mono (by decide) (by decide)
   ·exact(Th.intB (by decide)).mono (by decide) (by decide)
   ·exact⟨_,.str _,gd_5.sh,gd_5.lv,Nat.le_trans gd_5.dp (by decide),Nat.le_trans gd_5.wt (by decide)⟩
   ·exact⟨_,.str _,cc_.sh,cc_.lv,Nat.le_trans cc_.dp (by decide),Nat.le_trans cc_.wt (by decide)⟩
   ·exact(Th.lst (L:=1) (kf_ (t8 _ _ (t7 _ _ u6)) (off (Same.refl _) hl1)) (fun y hy=>by rw[List.mem_singleton.mp hy];exact hm30) (by simp)).mono (by decide) (by decide)
   ·exact(Th.tup (L:=1) (kf_ (t8 _ _ u7) (off t6 hl2)) (fun y hy=>by rw[List.mem_singleton.mp hy];exact hm30) (by simp)).mono (by decide) (by decide)
   ·exact(Th.emp (kf_ u8 (off (t6.trans t7) hl3))).mono (by decide) (by decide)
   ·exact(Th.intB (by decide)).mono (by decide) (by decide)
  have t9:=f_ (o:=.lst [V.non,V.bl true,V.bl false,V.int (-1),V.str "5",V.str "",V.ref l1,V.ref l2,V.ref l3,V.int (0-10 ^ (25:Int).toNat)]) hl4
  have E9:=E5.keep (T8.trans t9)
  refine⟨_,rfl,st,10,rfl,E9,by decide,by decide,fun r H10 r0 r1 E10 k10=>?_⟩
  obtain⟨od,eo,ho⟩:=ne_ (xs:=[V.non,V.bl true,V.bl false,V.int (-1),V.str "5",V.str "",V.ref l1,V.ref l2,V.ref l3,V.int (0-10 ^ (25:Int).toNat)]) (i:=r) r0 r1 hod
  refine bB_ (k10 l4 _ c_ (fun z=>off T8 hl4 (w1 _ z))) eo ?_
  have k10':Kp [st,kn] H8 H10:=(Kp.of t9).trans (k10.wid w1)
  have ho:=ho.keep (db_ k10')
  have S10:=(S5.keep (T8.trans t9)).kst E9 na nc k10
  have K10:Kp [st,kn] H H10:=(K5.trans (Kp.of T8)).trans k10'
  have hMI:(0:Int)<((b ^ ps.sum:Nat):Int):=by lia
  obtain⟨fM,hfM,hfM2⟩:∃fM:Nat,(far:Int) % ((b ^ ps.sum:Nat):Int)=(fM:Int)/\fM<b ^ ps.sum:=⟨far % b ^ ps.sum,by lia,Nat.mod_lt _ hp⟩
  refine⟨_,rfl,_,rfl,_,_,rfl,rfl,_,rfl,_,rfl,_,_,rfl,rfl,_,rfl,_,_,rfl,rfl,_,rfl,_,rfl,_,_,rfl,rfl,hMI,sz (by simp),fun l5 hl5=>?_⟩
  dsimp only
  rw[hfM]
  have t11:=f_ (o:=.lst ([(m:Int)+((b ^ j:Nat):Int),(m:Int)-((b ^ j:Nat):Int),(m:Int)+1,(fM:Int)].map V.int)) hl5
  have E11:=E10.keep t11
  refine⟨_,rfl,st,4,rfl,E11,by decide,by decide,fun r2 H12 r20 r21 E12 k12=>?_⟩
  obtain⟨L,eL,hL⟩:=cm_ (ns:=[(m:Int)+((b ^ j:Nat):Int),(m:Int)-((b ^ j:Nat):Int),(m:Int)+1,(fM:Int)]) (i:=r2) (Pr:=fun n=>n.natAbs<=10 ^ 30) r20 r21 (by
   intro y hy
   simp only[List.mem_cons,List.not_mem_nil,or_false] at hy
   rcases hy with rfl | rfl | rfl | rfl <;> lia)
  obtain⟨kv10,ekv10,_⟩:=S10.kn
  have n5:l5∉[st,kn]:=fun z=>by
   rcases List.mem_cons.mp z with rfl | z
   ·exact E10.off hl5 rfl
   ·rw[List.mem_singleton.mp z,ekv10] at hl5
    cases hl5
  refine bB_ (k12 l5 _ c_ (fun z=>n5 (w1 _ z))) eL ?_
  have k12':Kp [st,kn] H10 H12:=(Kp.of t11).trans (k12.wid w1)
  have ho:=ho.keep (db_ k12')
  have S12:=(S10.keep t11).kst E11 na nc k12
  have K12:=K10.trans k12'
  refine⟨fun σ H'=>∃L:Int,σ=[some (.ref st),some (.ref f),some (.ref sh),some (.int ((b ^ ps.sum:Nat):Int)),some (.int T0),some (.int far),v6,some (.int m),some (.int ((b ^ j:Nat):Int)),some od,some (.int L),none]/\L.natAbs<=10 ^ 30/\H12=H',?iff,?tail⟩
  case iff =>
   refine⟨_,rfl,_,_,rfl,rfl,?_⟩
   refine⟨_,rfl,ite2 (fun _=>⟨_,rfl,_,_,rfl,rfl,_,rfl,ite2 (fun _=>⟨_,rfl,_,rfl,_,_,rfl,rfl,⟨by decide,by decide,by decide⟩,_,_,rfl,rfl,_,rfl,ite2 (fun _=>⟨_,rfl,-1,rfl,by decide,rfl⟩) (fun _=>⟨L,rfl,hL,rfl⟩)⟩) (fun _=>⟨L,rfl,hL,rfl⟩)⟩) (fun _=>⟨_,rfl,ite2 (fun _=>⟨_,rfl,_,rfl,_,_,rfl,rfl,⟨by decide,by decide,by decide⟩,_,_,rfl,rfl,_,rfl,ite2 (fun _=>⟨_,rfl,-1,rfl,by decide,rfl⟩) (fun _=>⟨L,rfl,hL,rfl⟩)⟩) (fun _=>⟨L,rfl,hL,rfl⟩)⟩)⟩
  rintro σ H' ⟨L,rfl,hL,rfl⟩
  refine⟨_,rfl,_,rfl,st,40,rfl,E12,by decide,by decide,fun r3 H13 r30 r31 E13 k13=>?_⟩
  have ho:=ho.keep (db_ (k13.wid w1))
  have S13:=S12.kst E12 na nc k13
  have K13:=K12.trans (k13.wid w1)
  refine⟨_,rfl,_,_,rfl,rfl,⟨by decide,by decide,by decide⟩,_,_,rfl,rfl,.inr ⟨_,rfl,_,_,rfl,rfl,b01 _,_,_,rfl,rfl,?_⟩⟩
  obtain⟨be,hbe,hbl⟩:∃be:Int,((b ^ ps.sum:Nat):Int)+r3*(if decide (((b ^ ps.sum:Nat):Int)<(10:Int) ^ (25:Int).toNat)=true then 1 else 0)=be/\be.natAbs<=10 ^ 30:=by
   refine⟨_,rfl,?_⟩
   split <;> lia
  dsimp only
  rw[hbe]
  have hT1:(T0:Int)-1=((T0-1:Nat):Int):=by lia
  obtain⟨kv13,ekv13,_⟩:=S13.kn
  refine⟨_,rfl,_,rfl,_,rfl,_,_,rfl,rfl,sh,rl,kn,f,a,c,rs,tss,b,d,ps,ws,T0-1,by show[V.ref sh,V.int ((T0:Int)-1)]=_;rw[hT1],S13,hd,fun v H14 kn14 k14 hv2=>?_⟩
  obtain⟨m2,rfl,hm2,_⟩:=hv2.far (by rw[hT0];lia)
  have ho:=ho.keep (db_ (k14.wid w2))
  have S14:=S13.kp k14 kn14
  have E14:=E13.kpn ekv13 k14
  have K14:=K13.trans (k14.wid w2)
  refine⟨_,rfl,_,rfl,_,rfl,_,_,rfl,rfl,hMI,_,rfl,_,rfl,_,rfl,sz (by simp),fun l6 hl6=>?_⟩
  dsimp only
  rw[hfM]
  have t15:=f_ (o:=.lst [V.int (m:Int),V.int (m2:Int),V.int L,V.int (fM:Int),V.int ((b ^ ps.sum:Nat):Int),V.int be,V.int 0,od]) hl6
  obtain⟨kv14,ekv14,_⟩:=S14.kn
  have n6:l6∉[st,kn]:=fun z=>by
   rcases List.mem_cons.mp z with rfl | z
   ·exact E14.off hl6 rfl
   ·rw[List.mem_singleton.mp z,ekv14] at hl6
    cases hl6
  refine k l6 _ _ (E14.keep t15) (S14.keep t15) (K14.same t15) c_ n6 fun x hx=>?_
  simp only[List.mem_cons,List.not_mem_nil,or_false] at hx
  rcases hx with rfl | rfl | rfl | rfl | rfl | rfl | rfl | rfl
  ·exact(Th.intB (by lia)).mono (by decide) (by decide)
  ·exact(Th.intB (by lia)).mono (by decide) (by decide)
  ·exact(Th.intB hL).mono (by decide) (by decide)
  ·exact(Th.intB (by lia)).mono (by decide) (by decide)
  ·exact(Th.intB (by lia)).mono (by decide) (by decide)
  ·exact(Th.intB hbl).mono (by decide) (by decide)
  ·exact(Th.intB (by decide)).mono (by decide) (by decide)
  ·exact ho.keep (db_ (Kp.of t15))
end
theorem ih_{H:Hp}{v:V}{d:PyData}(t:Tree H v d):Thing H v:=by
 cases t with
 | non=>exact .non
 | bl b=>exact .bl b
 | int i=>exact .int i
 | str x=>exact .str x
 | lst e _=>exact .lst e
 | tup e _=>exact .tup e
 | emp e=>exact .dK e
def gl_(c:Nat->Addr):Sp:=fun vs H Q _=>∃(sh rl kn f a c1 g a2 c2:Addr) (rs:List Addr) (tss:List (List Addr)) (b d:Nat) (ps:List Nat) (ws:List Int) (x:V),vs=[.ref f,.ref g,.ref sh,.int d,x]/\ShAt H 0 sh rl kn f a c1 rs tss b (min d 4000) ps ws/\FrAt H g a2 c2 b ps ws/\Th (Off [kn] H) 2 300 x/\∀H',(∃kvs,H' kn=some (.dT kvs)/\KnOk b (min d 4000) ps ws kvs)->Kp [kn] H H'->Q (.bl true) H'
section
variable{P:Program}{w:World}{K:PySem.W.Frag}{mg:Str->Option Value}{base:Heap}{c:Nat->Addr}
theorem dH_:bootBuiltins "repr"=some (.builtin "repr"):=PyProof.Rows.boot_repr
theorem jx_:FnScope ["frame","given","sheet","d","thing","kept","good","door","again","found","caught"] ["frame","given","sheet","d","thing"] (h_ jD_):=⟨rfl,rfl,rfl,by decide +kernel,rfl,by decide +kernel,by decide +kernel⟩
theorem lI_{f:Addr}{fd:FuncData}(F:Fun K "_law_right" "_law_right" jD_ f fd)(T:Txt mg)(nrepr:mg "repr"=none)(y5:Kind K c (c 5) 5)(d_law_many:Def P w K mg base 1 "_law_many" ["frame"] N_)(d_law_spread:Def P w K mg base 2 "_law_spread" ["frame","n"] aY_)(d_law_told:Def P w K mg base 14 "_law_told" ["door","frame","d","thing"] (jn_ c))(d_law_below:Def P w K mg base 9 "_law_below" ["sheet","n"] dU_)(d_law_kind:Def P w K mg base 1 "_law_kind" ["e","due"] (jq_ K c)):FnOk P w K mg base CX0 15 f fd ["frame","given","sheet","d","thing"] (gl_ c):=by
 refine F.ok jx_ (fun vs H Q E h=>?_) (fun cdv A outer s H vs Q E hr h=>?_)
 ·obtain⟨sh,rl,kn,f,a,c1,g,a2,c2,rs,tss,b,d,ps,ws,x,rfl,_⟩:=h;rfl
 ·obtain⟨sh,rl,kn,f,a,c1,g,a2,c2,rs,tss,b,d,ps,ws,x,rfl,S0,g0,tx,k⟩:=h
  have nd:=jx_.nd
  refine⟨_,(b_ (i_ (i:=5) nd rfl (Or.inl rfl) (o_ (dG_ hr.gd hr.units) (by rfl) nrepr dH_ (a_ (pv 4) d_)))
   (b_ (fj_ (i_ (i:=6) nd rfl (Or.inl rfl) (bY_ (o_ aG_ (by rfl) T.isi boot_isinstance (a_ (pv 4) (a_ (ep_ T.int boot_int) d_))) (bY_ (mI_ (o_ aG_ (by rfl) T.isi boot_isinstance (a_ (pv 4) (a_ (ep_ T.bool boot_bool) d_)))) (cr_ (hH_ cu_ gA_ e_ (pv 4) (p_ d_law_many hr.mo (by rfl) (a_ (pv 0) d_))))))))
   (b_ (fj_ (i_ (i:=6) nd rfl (Or.inl rfl) (bY_ (pv 6) (cr_ (aw_ cu_ (p_ d_law_spread hr.mo (by rfl) (a_ (pv 0) (a_ (pv 4) d_))) (pv 3) (nomark _))))))
   (b_ (C_ PassesOwn.never rfl (J_ (ixl (s_ (a_ (s_ (a_ e_ d_)) (a_ (s_ (a_ e_ (a_ e_ d_))) d_))) (Q_ ax_ (by rfl) T.int boot_int (a_ (aw_ cl_ (pv 3) e_ (nomark _)) d_)))) (j_ (i:=7) nd rfl (Or.inl rfl))
    (g_ (C_ PassesOwn.never rfl (y_ (by rfl) T.range (a_ e_ d_)) (j_ (i:=8) nd rfl (Or.inl rfl))
     (b_ (bf_ (p_ d_law_told hr (by rfl) (a_ (pv 7) (a_ (pv 1) (a_ (pv 3) (a_ (pv 4) d_))))) (bX_ rfl (n_ (j_ (i:=9) nd rfl (Or.inl rfl)) (n_ (j_ (i:=10) nd rfl (Or.inl rfl)) P_))))
     (b_ (W_ (PW.pt (do_ (z_ nK_ (o_ (dG_ hr.gd hr.units) (by rfl) nrepr dH_ (a_ (pv 4) d_)) (pv 5) (nomark _)) (bW_ (z_ (nJ_ P w rfl rfl hr.units) (pv 1) (pv 0) (nomark _))))) (g_ (q_ cY_)) w_)
     (g_ (W_ (aB_ (pv 6)) (b_ (W_ (PW.pt (do_ (z_ jZ_ (pv 10) ad_ (nomark _)) (do_ (aK_ (aB_ (o_ aG_ (by rfl) T.isi boot_isinstance (a_ (pv 9) (a_ (ep_ T.int boot_int) d_))))) (bW_ (aB_ (o_ aG_ (by rfl) T.isi boot_isinstance (a_ (pv 9) (a_ (ep_ T.bool boot_bool) d_)))))))) (g_ (q_ cY_)) w_)
      (g_ (W_ (z_ nK_ (pv 9) (p_ d_law_below hr.mo (by rfl) (a_ (pv 2) (a_ (pv 4) d_))) (nomark _)) (g_ (q_ cY_)) w_))) (g_ (W_ (PW.pt (do_ (z_ jZ_ (pv 9) ad_ (nomark _)) (bW_ (aK_ (aB_ (p_ d_law_kind hr.mo (by rfl) (a_ (pv 10) (a_ aC_ d_)))))))) (g_ (q_ cY_)) w_)))))))))
   (g_ (q_ cY_)))))),?_⟩
  have ok:=S0.fr.ok
  have hp:=hG_ ok
  obtain⟨dd,tr,gd⟩:=tx
  have c1':=gd.sh
  have c2':dd.depth<=50:=Nat.le_trans gd.dp (by decide)
  have c3':=gd.shown (by decide)
  have trH:∀ {H':Hp},Kp [kn] H H'->Tree H' x dd:=fun k'=>(tr.keep (db_ k')).keep nV_
  have ty:∀ {H':Hp},Kp [kn] H H'->Thing H' x:=fun k'=>ih_ (trH k')
  obtain⟨kv0,ekv0,kok0⟩:=S0.kn
  refine⟨_,rfl,x,dd,rfl,trH Kp.refl,c1',c2',c3',?_⟩
  refine⟨fun σ H'=>∃g1:Bool,σ=[some (.ref f),some (.ref g),some (.ref sh),some (.int (d:Int)),some x,some (.str dd.shown),some (.bl g1),none,none,none,none]/\Same H H'/\(g1=true↔∃n:Nat,x=.int n/\n<b ^ ps.sum),?if1,?tl1⟩
  case if1 =>
   cases ty Kp.refl with
   | non=>exact⟨_,rfl,_,_,_,_,rfl,.non,mR_,false,rfl,iteF ⟨_,rfl,Same.refl _,by simp⟩⟩
   | bl t=>exact⟨_,rfl,_,_,_,_,rfl,.bl t,mU_,true,rfl,iteT ⟨_,rfl,_,_,_,_,rfl,.bl t,mV_,true,rfl,_,rfl,iteF ⟨_,rfl,Same.refl _,by simp⟩⟩⟩
   | str t=>exact⟨_,rfl,_,_,_,_,rfl,.str t,mQ_,false,rfl,iteF ⟨_,rfl,Same.refl _,by simp⟩⟩
   | lst e=>exact⟨_,rfl,_,_,_,_,rfl,.lst e,mS_,false,rfl,iteF ⟨_,rfl,Same.refl _,by simp⟩⟩
   | tup e=>exact⟨_,rfl,_,_,_,_,rfl,.tup e,mP_,false,rfl,iteF ⟨_,rfl,Same.refl _,by simp⟩⟩
   | dK e=>exact⟨_,rfl,_,_,_,_,rfl,.dK e,mT_,false,rfl,iteF ⟨_,rfl,Same.refl _,by simp⟩⟩
   | int i =>
    refine⟨_,rfl,_,_,_,_,rfl,.int i,kn_,true,rfl,iteT ⟨_,rfl,_,_,_,_,rfl,.int i,ko_,false,rfl,_,rfl,iteT ?_⟩⟩
    refine⟨_,rfl,_,_,rfl,rfl,_,rfl,?_⟩
    by_cases h1:(0:Int)<=i
    ·rw[decide_eq_true h1]
     refine iteT ⟨_,rfl,f,a,c1,b,ps,ws,rfl,S0.fr,fun H1 s1=>⟨_,_,rfl,rfl,_,rfl,s1,?_⟩⟩
     rw[decide_eq_true_eq]
     constructor
     ·intro z
      exact⟨i.toNat,by rw[Int.toNat_of_nonneg h1],by lia⟩
     ·rintro⟨n,z,hn⟩
      injection z with z
      lia
    ·rw[decide_eq_false h1]
     refine iteF ⟨_,rfl,Same.refl _,?_⟩
     constructor
     ·intro z;cases z
     ·rintro⟨n,z,hn⟩
      injection z with z
      lia
  rintro σ H1 ⟨g1,rfl,s1,hg1⟩
  refine⟨fun σ H'=>∃g2:Bool,σ=[some (.ref f),some (.ref g),some (.ref sh),some (.int (d:Int)),some x,some (.str dd.shown),some (.bl g2),none,none,none,none]/\Same H H'/\(g2=true↔NearV b d ps ws x),?if2,?tl2⟩
  case if2 =>
   refine⟨_,rfl,_,rfl,ite2 (fun hg=>?_) (fun hg=>⟨g1,by cases g1 <;> simp_all,s1,?_⟩)⟩
   ·obtain⟨n,rfl,hn⟩:=hg1.mp hg
    refine⟨_,rfl,_,rfl,f,a,c1,b,ps,ws,n,rfl,S0.fr.keep s1,hn,fun H2 s2=>⟨_,rfl,_,_,rfl,rfl,_,rfl,s1.trans s2,?_⟩⟩
    rw[decide_eq_true_eq]
    constructor
    ·intro z
     exact⟨n,rfl,hn,Mx.nrI_le.mpr z⟩
    ·rintro⟨m,z,_,hm⟩
     injection z with z
     have z':n=m:=by lia
     subst z'
     exact Mx.nrI_le.mp hm
   ·refine⟨fun z=>absurd z hg,?_⟩
    rintro⟨m,z,h1,_⟩
    exact absurd (hg1.mpr ⟨m,z,h1⟩) hg
  rintro σ H2 ⟨g2,rfl,s2,hg2⟩
  refine⟨sz (by simp),fun l1 hl1=>⟨sz (by simp),fun l2 hl2=>⟨sz (by simp),fun l3 hl3=>?_⟩⟩⟩
  have q1:=f_ (o:=.lst [V.int 1]) hl1
  have u1:(upd H2 l1 (.lst [V.int 1])) l1=some (.lst (([1]:List Int).map V.int)):=c_
  generalize upd H2 l1 (.lst [V.int 1])=H3 at q1 u1 hl2 hl3⊢
  have q2:=f_ (o:=.lst [V.int 0,V.int 1]) hl2
  have u2:(upd H3 l2 (.lst [V.int 0,V.int 1])) l2=some (.lst (([0,1]:List Int).map V.int)):=c_
  generalize upd H3 l2 (.lst [V.int 0,V.int 1])=H4 at q2 u2 hl3⊢
  have q3:=f_ (o:=.lst [V.ref l1,V.ref l2]) hl3
  have u3:(upd H4 l3 (.lst [V.ref l1,V.ref l2])) l3=_:=c_
  generalize upd H4 l3 (.lst [V.ref l1,V.ref l2])=H5 at q3 u3⊢
  have s5:=((s2.trans q1).trans q2).trans q3
  obtain⟨ld,ns,eL,hld,hdo⟩:∃(ld:Addr) (ns:List Int),atI [V.ref l1,V.ref l2] (if decide (V.int (d:Int)=V.int 0)=true then 1 else 0)=some (.ref ld)/\H5 ld=some (.lst (ns.map V.int))/\∀z∈ns,(z=(0:Int)/\d=0)\/z=1:=by
   by_cases h0:d=0
   ·refine⟨l2,[0,1],?_,q3 _ _ u2,fun z hz=>?_⟩
    ·rw[if_pos (by rw[h0];rfl)];rfl
    ·simp only[List.mem_cons,List.not_mem_nil,or_false] at hz
     rcases hz with rfl | rfl
     ·exact .inl ⟨rfl,h0⟩
     ·exact .inr rfl
   ·refine⟨l1,[1],?_,q3 _ _ (q2 _ _ u1),fun z hz=>?_⟩
    ·rw[if_neg (by simp only[decide_eq_true_eq];intro z;injection z with z;lia)];rfl
    ·simp only[List.mem_singleton] at hz
     exact .inr hz
  refine⟨_,rfl,rfl,.inr ⟨_,rfl,bB_ u3 eL ?_⟩⟩
  have S5:=S0.keep s5
  have g5:=g0.keep s5
  have ekv5:=s5 _ _ ekv0
  have hld':∀ {H':Hp},Kp [kn] H5 H'->H' ld=some (.lst (ns.map V.int)):=fun k'=>kpL k' ekv5 hld
  refine⟨ld,rfl,⟨_,SqL.of hld⟩,Z_ (K:=K) (a:=ld) (xs:=ns.map V.int) (fun j σ H'=>∃v7 v8 v9 v10,σ=[some (.ref f),some (.ref g),some (.ref sh),some (.int (d:Int)),some x,some (.str dd.shown),some (.bl g2),v7,v8,v9,v10]/\Kp [kn] H5 H'/\∃kvs,H' kn=some (.dT kvs)/\KnOk b (min d 4000) ps ws kvs)
   ⟨none,none,none,none,rfl,Kp.refl,S5.kn⟩ (fun j σ H' _ h=>by obtain⟨_,_,_,_,_,z,_⟩:=h;exact SqL.of (hld' z)) ?_ ?_⟩
  ·rintro j y σ H6 hy ⟨v7,v8,v9,v10,rfl,k6,kn6⟩
   obtain⟨z,hz,rfl⟩:∃z,z∈ns/\V.int z=y:=by simpa using List.mem_of_getElem? hy
   refine⟨_,rfl,by decide,by decide,D_ (n:=(2:Int).toNat) (fun m σ H'=>∃v8 v9 v10,σ=[some (.ref f),some (.ref g),some (.ref sh),some (.int (d:Int)),some x,some (.str dd.shown),some (.bl g2),some (.int z),v8,v9,v10]/\Kp [kn] H5 H'/\∃kvs,H' kn=some (.dT kvs)/\KnOk b (min d 4000) ps ws kvs) ⟨v8,v9,v10,rfl,k6,kn6⟩ ?_ ?_⟩
   ·rintro m σ H7 hm ⟨v8,v9,v10,rfl,k7,kn7⟩
    have S7:=S5.kp k7 kn7
    have g7:=g5.kpn ekv5 k7
    have K7:Kp [kn] H H7:=(Kp.of s5).trans k7
    refine⟨_,rfl,_,rfl,_,rfl,_,rfl,z,g,a2,c2,b,ps,ws,d,x,rfl,g7,ty K7,hdo z hz,fun n hx hn hi l H8 s8 h8=>?_,fun hv l e H8 s8 h8 he=>?_⟩
    ·have K8:=K7.same s8
     refine⟨l,_,rfl,SqL.of h8,rfl,_,_,rfl,_,_,rfl,rfl,?_⟩
     refine⟨_,rfl,x,dd,rfl,trH K8,c1',c2',c3',_,rfl,rfl,_,rfl,?_⟩
     rw[show(!decide (V.str dd.shown=V.str dd.shown))=false by simp]
     refine iteF ⟨_,rfl,_,rfl,L2.gS_ (g7.keep s8).dat (S7.fr.keep s8).dat (kD_ _ _ _) (fF_ _ _ _) ⟨_,rfl,iteF ?_⟩⟩
     have e2:g2=true:=hg2.mpr ⟨n,hx,hn,hi⟩
     subst e2
     refine⟨_,rfl,_,rfl,iteT ?_⟩
     refine⟨_,rfl,rfl,_,rfl,iteF ⟨_,rfl,_,_,_,_,rfl,.int _,kn_,true,rfl,iteF ⟨_,rfl,_,_,_,_,rfl,.int _,ko_,false,rfl,iteF ?_⟩⟩⟩
     subst hx
     refine⟨_,rfl,_,rfl,_,rfl,sh,rl,kn,f,a,c1,rs,tss,b,min d 4000,ps,ws,n,rfl,S7.keep s8,Nat.min_le_right _ _,Nat.le_of_lt hn,fun H9 kn9 k9=>⟨rfl,_,rfl,?_⟩⟩
     rw[Mx.nrN_min ok,gL_ rfl]
     exact iteF ⟨_,_,_,rfl,(k7.same s8).trans k9,kn9⟩
    ·have K8:=K7.same s8
     refine⟨l,_,rfl,SqL.of h8,rfl,_,_,rfl,_,_,rfl,rfl,?_⟩
     refine⟨_,rfl,x,dd,rfl,trH K8,c1',c2',c3',_,rfl,rfl,_,rfl,?_⟩
     rw[show(!decide (V.str dd.shown=V.str dd.shown))=false by simp]
     refine iteF ⟨_,rfl,_,rfl,L2.gS_ (g7.keep s8).dat (S7.fr.keep s8).dat (kD_ _ _ _) (fF_ _ _ _) ⟨_,rfl,iteF ?_⟩⟩
     have e2:g2=false:=by
      cases g2
      ·rfl
      ·exact absurd (hg2.mp rfl) hv
     subst e2
     refine⟨_,rfl,_,rfl,iteF ?_⟩
     refine⟨_,rfl,rfl,_,rfl,iteF ⟨_,rfl,e,c 5,5,"even","even",rfl,by decide +kernel,he,y5,rfl,fun H9 s9=>?_⟩⟩
     rw[decide_eq_true rfl]
     refine⟨_,rfl,iteF ⟨_,_,_,rfl,(k7.same s8).same s9,?_⟩⟩
     obtain⟨kv,e1,e2⟩:=kn7
     exact⟨kv,s9 _ _ (s8 _ _ e1),e2⟩
   ·rintro σ H7 ⟨v8,v9,v10,rfl,k7,kn7⟩
    exact⟨_,_,_,_,rfl,k7,kn7⟩
  ·rintro σ H6 ⟨v7,v8,v9,v10,rfl,k6,kn6⟩
   exact k H6 kn6 ((Kp.of s5).trans k6)
end
theorem pH_:FrOk 10 [1,1] [1,1]:=⟨by decide,by decide,by decide,by decide,by decide,rfl,by decide⟩
theorem pq_:Mx.nrI 10 0 [1,1] [1,1] 33=1/\Mx.nrN 10 0 [1,1] [1,1] 33=3:=by decide +kernel
theorem nd_{x y:Int}(k:Bool):∃L,atI [V.int x,V.int y] (if k=true then 1 else 0)=some (.int L)/\(L=x\/L=y):=by
 cases k
 ·exact⟨x,rfl,.inl rfl⟩
 ·exact⟨y,rfl,.inr rfl⟩
theorem nU_{a b:Addr}{H:Hp}:Same (Off [a,b] H) (Off [b] H):=fun x o h=>by
 unfold Off at h⊢
 by_cases h1:x∈[a,b]
 ·rw[if_pos h1] at h;cases h
 ·rw[if_neg h1] at h
  rw[if_neg (fun z=>h1 (List.mem_cons_of_mem _ z))]
  exact h
section
variable{P:Program}{w:World}{K:PySem.W.Frag}{mg:Str->Option Value}{base:Heap}{c:Nat->Addr}
theorem scLaw:FnScope ["script","at","store","wide","frame","given","d","sheet","thing"] ["script"] (h_ sLaw):=⟨rfl,rfl,rfl,by decide +kernel,rfl,by decide +kernel,by decide +kernel⟩
theorem oT_{f:Addr}{fd:FuncData}(F:Fun K "law" "law" sLaw f fd)(T:Txt mg)(d_law_cell:Def P w K mg base 1 "_law_cell" ["script","k"] (jr_ K))(d_law_store:Def P w K mg base 1 "_law_store" ["cell"] gj_)(d_law_take:Def P w K mg base 1 "_law_take" ["store","many"] dr_)(d_law_frame:Def P w K mg base 2 "_law_frame" ["store","longest"] go_)(d_law_copy:Def P w K mg base 1 "_law_copy" ["frame"] gp_)(d_law_d:Def P w K mg base 2 "_law_d" ["store","frame"] jp_)(d_law_sheet:Def P w K mg base 1 "_law_sheet" ["frame","d"] gk_)(d_law_things:Def P w K mg base 10 "_law_things" ["store","frame","sheet"] dQ_)(d_law_right:Def P w K mg base 15 "_law_right" ["frame","given","sheet","d","thing"] (gl_ c))(d_place_of:Def P w K mg base 13 "place_of" ["frame","n"] bh_):FnOk P w K mg base CX0 16 f fd ["script"] (spLaw K):=by
 refine F.ok scLaw (fun vs H Q E h=>?_) (fun cdv A outer s H vs Q E hr h=>?_)
 ·obtain⟨a0,ns,rfl,_⟩:=h;rfl
 ·obtain⟨a0,ns,rfl,hS,hlen,k⟩:=h
  have nd:=scLaw.nd
  refine⟨_,(b_ (C_ PassesOwn.never rfl (y_ (by rfl) T.range (a_ (o_ (cf_ rfl) (by rfl) T.min boot_min (a_ (o_ (di_ rfl) (by rfl) T.max boot_max (a_ (lenS T.len (by rfl) (pv 0)) (a_ e_ d_))) (a_ e_ d_))) d_)) (j_ (i:=1) nd rfl (Or.inl rfl))
    (b_ (i_ (i:=2) nd rfl (Or.inl rfl) (p_ d_law_store hr.mo (by rfl) (a_ (p_ d_law_cell hr.mo (by rfl) (a_ (pv 0) (a_ (pv 1) d_))) d_)))
    (b_ (fj_ (i_ (i:=3) nd rfl (Or.inl rfl) (bY_ (aw_ cl_ (pv 1) e_ (nomark _)) (cr_ (aw_ cl_ (p_ d_law_take hr.mo (by rfl) (a_ (pv 2) (a_ e_ d_))) e_ (nomark _))))))
    (b_ (i_ (i:=4) nd rfl (Or.inl rfl) (p_ d_law_frame hr.mo (by rfl) (a_ (pv 2) (a_ (ixl (s_ (a_ e_ (a_ e_ d_))) (Q_ ax_ (by rfl) T.int boot_int (a_ (pv 3) d_))) d_))))
    (b_ (i_ (i:=5) nd rfl (Or.inl rfl) (p_ d_law_copy hr.mo (by rfl) (a_ (pv 4) d_)))
    (g_ (C_ PassesOwn.never rfl (J_ (s_ (a_ e_ (a_ (ixl (s_ (a_ (p_ d_law_d hr.mo (by rfl) (a_ (pv 2) (a_ (pv 4) d_))) (a_ (m_ r_ e_ (p_ d_law_take hr.mo (by rfl) (a_ (pv 2) (a_ e_ d_)))) d_))) (Q_ ax_ (by rfl) T.int boot_int (a_ (pv 3) d_))) d_)))) (j_ (i:=6) nd rfl (Or.inl rfl))
     (b_ (i_ (i:=7) nd rfl (Or.inl rfl) (p_ d_law_sheet hr.mo (by rfl) (a_ (pv 4) (a_ (pv 6) d_))))
     (g_ (C_ PassesOwn.never rfl (J_ (p_ d_law_things hr.mo (by rfl) (a_ (pv 2) (a_ (pv 4) (a_ (pv 7) d_))))) (j_ (i:=8) nd rfl (Or.inl rfl))
      (g_ (W_ (aK_ (aB_ (p_ d_law_right hr (by rfl) (a_ (pv 4) (a_ (pv 5) (a_ (pv 7) (a_ (pv 6) (a_ (pv 8) d_)))))))) (g_ (q_ cY_)) w_))))))))))))
   (g_ (q_ (aw_ cl_ (p_ d_place_of hr.mo (by rfl) (a_ (bD_ (a_ e_ (a_ (s_ (a_ e_ (a_ e_ d_))) (a_ (s_ (a_ e_ (a_ e_ d_))) d_)))) (a_ e_ d_))) e_ (nomark _))))),?_⟩
  refine⟨_,rfl,a0,_,rfl,.inl hS,_,_,rfl,_,_,rfl,?_⟩
  generalize hM:(if (5:Int)<(if (3:Int)>(((ns.map V.int).length:Nat):Int) then 3 else (((ns.map V.int).length:Nat):Int)) then (5:Int) else (if (3:Int)>(((ns.map V.int).length:Nat):Int) then 3 else (((ns.map V.int).length:Nat):Int)))=M
  have m1:3<=M/\M<=5:=by
   rw[<-hM]
   split <;> (split <;> lia)
  refine⟨_,rfl,by lia,by lia,D_ (n:=M.toNat) (fun i σ H2=>∃v1 v2 v3 v4 v5 v6 v7 v8,σ=[some (.ref a0),v1,v2,v3,v4,v5,v6,v7,v8]/\Same H H2) ⟨none,none,none,none,none,none,none,none,rfl,Same.refl _⟩ ?_ ?_⟩
  ·rintro i σ H2 hi ⟨v1,v2,v3,v4,v5,v6,v7,v8,rfl,s2⟩
   have ez:(0:Int)+(i:Int)=(i:Int):=Int.zero_add _
   rw[ez]
   refine⟨_,rfl,_,rfl,a0,ns,i,rfl,s2.seq hS,by lia,fun cl=>⟨cl,rfl,fun st H3 nq s3 E3=>?_⟩⟩
   have hq:H st=none:=s2.free nq
   have S3:=s2.trans s3
   refine⟨fun σ H'=>∃wd:Bool,σ=[some (.ref a0),some (.int (i:Int)),some (.ref st),some (.bl wd),v4,v5,v6,v7,v8]/\Store H' st/\Same H H',?iff,?tail⟩
   case iff =>
    refine⟨_,rfl,rfl,_,rfl,ite2 (fun _=>?_) (fun _=>⟨false,rfl,E3,S3⟩)⟩
    exact⟨_,rfl,st,8,rfl,E3,by decide,by decide,fun r H4 r0 r1 E4 k4=>⟨rfl,_,rfl,E4,cS_ S3 hq k4⟩⟩
   rintro σ H4 ⟨wd,rfl,E4,S4⟩
   refine⟨_,rfl,sz (by simp),fun l1 hl1=>?_⟩
   have s5:=f_ (o:=.lst [V.int 3,V.int 6]) hl1
   have u5:(upd H4 l1 (.lst [V.int 3,V.int 6])) l1=_:=c_
   generalize upd H4 l1 (.lst [V.int 3,V.int 6])=H5 at s5 u5⊢
   obtain⟨L,eL,hL⟩:=nd_ (x:=3) (y:=6) wd
   refine⟨_,rfl,.inr ⟨_,rfl,bB_ u5 eL ?_⟩⟩
   have E5:=E4.keep s5
   have S5:=S4.trans s5
   refine⟨st,L,rfl,E5,by lia,by lia,fun f a c b ps ws H6 E6 k6 G6 nf na nc=>?_⟩
   have na':a≠st:=E5.off na
   have nc':c≠st:=E5.off nc
   have S6:=cS_ S5 hq k6
   have ok:=G6.ok
   have hp:=hG_ ok
   refine⟨_,rfl,f,a,c,b,ps,ws,rfl,G6,fun g a2 c2 H7 s7 Gg _ na2 nc2=>?_⟩
   have E7:=E6.keep s7
   have G7:=G6.keep s7
   have na2':a2≠st:=E6.off na2
   have nc2':c2≠st:=E6.off nc2
   have S7:=S6.trans s7
   refine⟨_,rfl,_,rfl,st,f,a,c,b,ps,ws,rfl,E7,G7,na',nc',fun d0 H8 E8 k8=>?_⟩
   have S8:=cS_ S7 hq k8
   have G8:=G7.kps E7 na' nc' k8
   have g8:=Gg.kps E7 na2' nc2' k8
   refine⟨_,rfl,st,2,rfl,E8,by decide,by decide,fun r9 H9 r90 r91 E9 k9=>⟨_,_,rfl,rfl,sz (by simp),fun l2 hl2=>?_⟩⟩
   have S9:=cS_ S8 hq k9
   have G9:=G8.kps E8 na' nc' k9
   have g9:=g8.kps E8 na2' nc2' k9
   have s10:=f_ (o:=.lst [V.int (d0:Int),V.int (1+r9)]) hl2
   have u10:(upd H9 l2 (.lst [V.int (d0:Int),V.int (1+r9)])) l2=_:=c_
   generalize upd H9 l2 (.lst [V.int (d0:Int),V.int (1+r9)])=H10 at s10 u10⊢
   obtain⟨D,eD,hD⟩:=nd_ (x:=(d0:Int)) (y:=1+r9) wd
   obtain⟨d1,rfl⟩:∃d1:Nat,D=(d1:Int):=⟨D.toNat,by lia⟩
   refine⟨_,rfl,.inr ⟨_,rfl,bB_ u10 eD ⟨sz (by simp),fun l3 hl3=>?_⟩⟩⟩
   have s11:=f_ (o:=.lst [V.int 0,V.int (d1:Int)]) hl3
   have u11:(upd H10 l3 (.lst [V.int 0,V.int (d1:Int)])) l3=some (.lst (natV [0,d1])):=c_
   generalize upd H10 l3 (.lst [V.int 0,V.int (d1:Int)])=H11 at s11 u11⊢
   have T11:=s10.trans s11
   have S11:=S9.trans T11
   have n3:l3≠st:=(E9.keep s10).off hl3
   refine⟨l3,rfl,⟨_,SqL.of u11⟩,Z_ (K:=K) (a:=l3) (xs:=natV [0,d1]) (fun j σ H'=>∃v6 v7 v8,σ=[some (.ref a0),some (.int (i:Int)),some (.ref st),some (.bl wd),some (.ref f),some (.ref g),v6,v7,v8]/\Store H' st/\Same H H'/\FrAt H' f a c b ps ws/\FrAt H' g a2 c2 b ps ws/\H' l3=some (.lst (natV [0,d1])))
    ⟨v6,v7,v8,rfl,E9.keep T11,S11,G9.keep T11,g9.keep T11,u11⟩ (fun j σ H' _ h=>by obtain⟨_,_,_,_,_,_,_,_,z⟩:=h;exact SqL.of z) ?_ ?_⟩
   ·rintro j x σ H12 hx ⟨v6,v7,v8,rfl,E12,S12,G12,g12,l12⟩
    obtain⟨d,hd,rfl⟩:=df_ hx
    refine⟨_,rfl,_,rfl,f,a,c,b,ps,ws,d,rfl,G12,fun sh rl kn rs tss H13 s13 SH13 nkn=>?_⟩
    have hkn:H kn=none:=S12.free nkn
    have E13:=E12.keep s13
    have g13:=g12.keep s13
    obtain⟨kv13,ekv13,_⟩:=SH13.kn
    have nk:kn≠st:=fun z=>by
     obtain⟨x1,x2,x3,e2⟩:=E13
     rw[z,e2] at ekv13
     cases ekv13
    refine⟨_,rfl,_,rfl,_,rfl,st,sh,rl,kn,f,a,c,rs,tss,b,min d 4000,ps,ws,rfl,E13,SH13,Nat.min_le_right _ _,na',nc',fun l xs H14 E14 SH14 k14 h14 nl hxs=>?_⟩
    have S14:Same H H14:=fun z o e=>k14 z o (S12.trans s13 z o e) (fun hz=>by
     rcases List.mem_cons.mp hz with rfl | hz
     ·rw[hq] at e;cases e
     ·rw[List.mem_singleton.mp hz,hkn] at e;cases e)
    have kk:∀z o,H13 z=some o->z≠st->(∀kvs,o≠.dT kvs)->H14 z=some o:=fun z o e n1 n2=>k14 z o e (fun hz=>by
     rcases List.mem_cons.mp hz with z1 | z1
     ·exact n1 z1
     ·rw[List.mem_singleton.mp z1,ekv13] at e
      exact n2 _ (Option.some.inj e).symm)
    have g14:FrAt H14 g a2 c2 b ps ws:=⟨kk _ _ g13.tp (fun z=>by
     obtain⟨x1,x2,x3,e2⟩:=E13
     have e3:=g13.tp
     rw[z,e2] at e3
     cases e3) (fun _ z=>nomatch z),kk _ _ g13.hp na2' (fun _ z=>nomatch z),kk _ _ g13.hw nc2' (fun _ z=>nomatch z),ok⟩
    have l314:H14 l3=some (.lst (natV [0,d1])):=kk _ _ (s13 _ _ l12) n3 (fun _ z=>nomatch z)
    obtain⟨kv14,ekv14,_⟩:=SH14.kn
    refine⟨l,rfl,⟨_,SqL.of h14⟩,Z_ (K:=K) (a:=l) (xs:=xs) (fun m σ H'=>∃v8,σ=[some (.ref a0),some (.int (i:Int)),some (.ref st),some (.bl wd),some (.ref f),some (.ref g),some (.int (d:Int)),some (.ref sh),v8]/\Kp [kn] H14 H'/\∃kvs,H' kn=some (.dT kvs)/\KnOk b (min d 4000) ps ws kvs)
     ⟨v8,rfl,Kp.refl,SH14.kn⟩ (fun m σ H' _ h=>by
      obtain⟨_,_,z,_⟩:=h
      exact SqL.of (kpL z ekv14 h14)) ?_ ?_⟩
    ·rintro m x σ H17 hx ⟨v8,rfl,k17,kn17⟩
     have SH17:=SH14.kp k17 kn17
     have g17:=g14.kpn ekv14 k17
     have tx:Th (Off [kn] H17) 2 300 x:=((hxs x (List.mem_of_getElem? hx)).keep nU_).keep (db_ k17)
     refine⟨_,rfl,_,rfl,_,rfl,_,rfl,_,rfl,sh,rl,kn,f,a,c,g,a2,c2,rs,tss,b,d,ps,ws,x,rfl,SH17,g17,tx,fun H18 kn18 k18=>?_⟩
     exact⟨_,rfl,iteF ⟨_,rfl,k17.trans k18,kn18⟩⟩
    ·rintro σ H17 ⟨v8,rfl,k17,kn17⟩
     exact⟨_,_,_,rfl,E14.kpn ekv14 k17,cS_ S14 hkn k17,SH14.fr.kpn ekv14 k17,g14.kpn ekv14 k17,kpL k17 ekv14 l314⟩
   ·rintro σ H12 ⟨v6,v7,v8,rfl,E12,S12,G12,g12,l12⟩
    exact⟨_,_,_,_,_,_,_,_,rfl,S12⟩
  ·rintro σ H2 ⟨v1,v2,v3,v4,v5,v6,v7,v8,rfl,s2⟩
   refine⟨sz (by simp),fun p1 hp1=>⟨sz (by simp),fun p2 hp2=>⟨sz (by simp),fun p3 hp3=>?_⟩⟩⟩
   have q3:=f_ (o:=.tup [.int 10,.ref p1,.ref p2]) hp3
   have G:FrAt _ p3 p1 p2 10 [1,1] [1,1]:=⟨c_,q3 _ _ (f_ (o:=.lst [.int 1,.int 1]) hp2 _ _ c_),q3 _ _ c_,pH_⟩
   refine⟨p3,p1,p2,10,[1,1],[1,1],33,rfl,G,by decide,pq_.1,fun H3 s3=>?_⟩
   rw[pq_.2]
   exact⟨rfl,k _⟩
end
structure FnIn(K:PySem.W.Frag)(x:Str)(st:Stmt):Prop where
 ex:∃(f:Addr) (oc:Value) (od an:Option Addr) (osl:Array (Option Value)) (kV doc pm cdv ct:Value),PySem.W.nsIn K mainGlobals x=some (some (.ref f))/\
  K.lookup f=some ⟨oc,od,.func (PySem.W.fnOf x x (bc_ st) (O_ st) (h_ st) .none kV doc pm an cdv ct),osl⟩/\PySem.W.codeIn K cdv x=true/\PySem.W.keepIn K (.ref f)=true
theorem pI_{K:PySem.W.Frag}{x:Str}{st:Stmt}{f:Addr}{oc:Value}{od an:Option Addr}{osl:Array (Option Value)}{kV doc pm cdv ct:Value}(a:PySem.W.nsIn K mainGlobals x=some (some (.ref f)))
  (l:K.lookup f=some ⟨oc,od,.func (PySem.W.fnOf x x (bc_ st) (O_ st) (h_ st) .none kV doc pm an cdv ct),osl⟩) (c:PySem.W.codeIn K cdv x=true) (k:PySem.W.keepIn K (.ref f)=true):FnIn K x st:=⟨f,oc,od,an,osl,kV,doc,pm,cdv,ct,a,l,c,k⟩
structure TxtIn(K:PySem.W.Frag):Prop where
 isi:PySem.W.nsIn K mainGlobals "isinstance"=some none
 int:PySem.W.nsIn K mainGlobals "int"=some none
 bool:PySem.W.nsIn K mainGlobals "bool"=some none
 list:PySem.W.nsIn K mainGlobals "list"=some none
 tuple:PySem.W.nsIn K mainGlobals "tuple"=some none
 all:PySem.W.nsIn K mainGlobals "all"=some none
 len:PySem.W.nsIn K mainGlobals "len"=some none
 sum:PySem.W.nsIn K mainGlobals "sum"=some none
 range:PySem.W.nsIn K mainGlobals "range"=some none
 max:PySem.W.nsIn K mainGlobals "max"=some none
 min:PySem.W.nsIn K mainGlobals "min"=some none
 rev:PySem.W.nsIn K mainGlobals "reversed"=some none
 zip:PySem.W.nsIn K mainGlobals "zip"=some none
 enum:PySem.W.nsIn K mainGlobals "enumerate"=some none
theorem us0{p:List Value->Prop}(h:p [])(us:List Value)(hl:us.length=0):p us:=by rw[List.eq_nil_of_length_eq_zero hl];exact h
theorem usS{n:Nat}{p:List Value->Prop}(h:∀a r,r.length=n->p (a::r))(us:List Value)(hl:us.length=n+1):p us:=by
 cases us with
 | nil=>cases hl
 | cons a r=>exact h a r (Nat.succ.inj hl)
theorem us1{p:List Value->Prop}(h:∀a,p [a]):∀us:List Value,us.length=1->p us:=usS fun a=>us0 (p:=fun r=>p (a::r)) (h a)
theorem us2{p:List Value->Prop}(h:∀a b,p [a,b]):∀us:List Value,us.length=2->p us:=usS fun a=>us1 (p:=fun r=>p (a::r)) (h a)
theorem us3{p:List Value->Prop}(h:∀a b c,p [a,b,c]):∀us:List Value,us.length=3->p us:=usS fun a=>us2 (p:=fun r=>p (a::r)) (h a)
theorem us4{p:List Value->Prop}(h:∀a b c d,p [a,b,c,d]):∀us:List Value,us.length=4->p us:=usS fun a=>us3 (p:=fun r=>p (a::r)) (h a)
theorem us5{p:List Value->Prop}(h:∀a b c d e,p [a,b,c,d,e]):∀us:List Value,us.length=5->p us:=usS fun a=>us4 (p:=fun r=>p (a::r)) (h a)
section
variable{P:Program}{w:World}{K:PySem.W.Frag}{mg:Str->Option Value}{base h:Heap}
theorem TxtIn.txt(T:TxtIn K)(X:K.In h)(G:h.Ns mainGlobals mg):Txt mg :=
 have e:∀x,PySem.W.nsIn K mainGlobals x=some none->mg x=none:=fun x z=>PySem.W.mg_none_of X G z
 ⟨e _ T.isi,e _ T.int,e _ T.bool,e _ T.list,e _ T.tuple,e _ T.all,e _ T.len,e _ T.sum,e _ T.range,e _ T.max,e _ T.min,e _ T.rev,e _ T.zip,e _ T.enum⟩
theorem t_{x:Str}{st:Stmt}{k:Nat}{ps:List Str}{sp:Sp}(D:FnIn K x st)(X:K.In h)(G:h.Ns mainGlobals mg)(ok:∀f fd,Fun K x x st f fd->FnOk P w K mg base CX0 k f fd ps sp)
  (hb:∀(kV doc pm:Value) (an:Option Addr) (cdv ct:Value) (us:List Value),us.length=ps.length->bindArgs (PySem.W.fnOf x x (bc_ st) (O_ st) (h_ st) .none kV doc pm an cdv ct) ⟨us,[]⟩=pure (ps.zip us)):Def P w K mg base k x ps sp:=by
 obtain⟨f,oc,od,an,osl,kV,doc,pm,cdv,ct,a,l,c,kp⟩:=D.ex
 have F:=kC_ (st:=st) l c kp
 exact⟨f,_,ok _ _ F,PySem.W.mg_of X G a,kp,F.binds hb⟩
end
theorem gW_{P:Program}{w:World}{K:PySem.W.Frag}{mg:Str->Option Value}{base h:Heap}{x:Str}{st:Stmt}{k:Nat}{ps:List Str}{sp:Sp}(D:FnIn K x st)(X:K.In h)(G:h.Ns mainGlobals mg)(ok:∀f fd,Fun K x x st f fd->FnOk P w K mg base (CX1 P w) k f fd ps sp)
  (hb:∀(kV doc pm:Value) (an:Option Addr) (cdv ct:Value) (us:List Value),us.length=ps.length->bindArgs (PySem.W.fnOf x x (bc_ st) (O_ st) (h_ st) .none kV doc pm an cdv ct) ⟨us,[]⟩=pure (ps.zip us)):Def1 P w K mg base k x ps sp:=by
 obtain⟨f,oc,od,an,osl,kV,doc,pm,cdv,ct,a,l,c,kp⟩:=D.ex
 have F:=kC_ (st:=st) l c kp
 exact⟨f,_,ok _ _ F,PySem.W.mg_of X G a,kp,F.binds hb⟩
theorem pz_{l:PySem.W.OpenLaw}{w:World}{K:PySem.W.Frag}{h:Heap}{mg:Str->Option Value}{fa:Addr}(X:K.In h)(G:h.Ns mainGlobals mg)(hfa:mg "law"=some (.ref fa))(TI:TxtIn K)
  (i0:FnIn K "is_whole" jB_)
  (i1:FnIn K "is_between" sBetw)
  (i2:FnIn K "is_list_between" hy_)
  (i3:FnIn K "is_frame" ee_)
  (i4:FnIn K "need_frame" cj_)
  (i5:FnIn K "how_many" ef_)
  (i6:FnIn K "need_number" bJ_)
  (i7:FnIn K "cut_by_parts" sCut)
  (i8:FnIn K "figures_of" ck_)
  (i9:FnIn K "part_sums" aJ_)
  (i10:FnIn K "misses_by" cU_)
  (i11:FnIn K "with_one_more_figure" ea_)
  (i12:FnIn K "ways_of_weights" hx_)
  (i13:FnIn K "weighted_sum" bl_)
  (i14:FnIn K "part_beginnings" bx_)
  (i15:FnIn K "stretches_below" bv_)
  (i16:FnIn K "need_miss" cT_)
  (i17:FnIn K "running_counts" dZ_)
  (i18:FnIn K "ways_within" gt_)
  (i19:FnIn K "count_spread_within" bw_)
  (i20:FnIn K "tails_of_part" az_)
  (i21:FnIn K "tails_of_parts" al_)
  (i22:FnIn K "ways_from_beginnings" ab_)
  (i23:FnIn K "count_begun" bK_)
  (i24:FnIn K "count_below" as_)
  (i25:FnIn K "need_near" bV_)
  (i26:FnIn K "near_place" by_)
  (i27:FnIn K "place_of" cy_)
  (i28:FnIn K "_law_cell" sCell)
  (i29:FnIn K "_law_store" jC_)
  (i30:FnIn K "_law_take" sTake)
  (i31:FnIn K "_law_frame" hA_)
  (i32:FnIn K "_law_many" sMany)
  (i33:FnIn K "_law_figures" eg_)
  (i34:FnIn K "_law_spread" dY_)
  (i35:FnIn K "_law_copy" sCopy)
  (i36:FnIn K "_law_sheet" ar_)
  (i37:FnIn K "_law_free" cA_)
  (i38:FnIn K "_law_from" cz_)
  (i39:FnIn K "_law_ends" ec_)
  (i40:FnIn K "_law_below" cV_)
  (i41:FnIn K "_law_by" jE_)
  (i42:FnIn K "_law_d" sLawD)
  (i43:FnIn K "_law_kind" aA_)
  (i44:FnIn K "_law_told" eb_)
  (i45:FnIn K "_law_things" gu_)
  (i46:FnIn K "_law_right" jD_)
  {cB c0 c1 c2 c3 c4 c5 c6 c7 c8 c9:Addr} (eB:PySem.W.nsIn K mainGlobals "HalfError"=some (some (.ref cB)))
  (e0:PySem.W.nsIn K mainGlobals "NoFrame"=some (some (.ref c0)))
  (e1:PySem.W.nsIn K mainGlobals "NoNumber"=some (some (.ref c1)))
  (e2:PySem.W.nsIn K mainGlobals "NoPart"=some (some (.ref c2)))
  (e3:PySem.W.nsIn K mainGlobals "NoSum"=some (some (.ref c3)))
  (e4:PySem.W.nsIn K mainGlobals "NoMiss"=some (some (.ref c4)))
  (e5:PySem.W.nsIn K mainGlobals "NoEven"=some (some (.ref c5)))
  (e6:PySem.W.nsIn K mainGlobals "NoFrames"=some (some (.ref c6)))
  (e7:PySem.W.nsIn K mainGlobals "NoText"=some (some (.ref c7)))
  (e8:PySem.W.nsIn K mainGlobals "NoName"=some (some (.ref c8)))
  (e9:PySem.W.nsIn K mainGlobals "NoRow"=some (some (.ref c9)))
  (tB:PySem.W.typeIn K (.ref cB)=some (.type "type")) (mB:PySem.W.mroIn K cB (.type "BaseException")=some true)
  (q5:PySem.W.excIn K c5 [.type "ValueError",.type "Exception",.type "BaseException",.type "object"] "ValueError.__new__"=true) (m5:PySem.W.mroIn K c5 (.ref cB)=some true) (l5:ClsE K c5) (v5:PySem.W.kitOne K (.ref c5) (.type "ValueError")=some true)
  (k5_0:PySem.W.kitOne K (.ref c5) (.ref c0)=some false)
  (k5_1:PySem.W.kitOne K (.ref c5) (.ref c1)=some false)
  (k5_2:PySem.W.kitOne K (.ref c5) (.ref c2)=some false)
  (k5_3:PySem.W.kitOne K (.ref c5) (.ref c3)=some false)
  (k5_4:PySem.W.kitOne K (.ref c5) (.ref c4)=some false)
  (k5_5:PySem.W.kitOne K (.ref c5) (.ref c5)=some true)
  (k5_6:PySem.W.kitOne K (.ref c5) (.ref c6)=some false)
  (k5_7:PySem.W.kitOne K (.ref c5) (.ref c7)=some false)
  (k5_8:PySem.W.kitOne K (.ref c5) (.ref c8)=some false)
  (k5_9:PySem.W.kitOne K (.ref c5) (.ref c9)=some false)
  (ndict:PySem.W.nsIn K mainGlobals "dict"=some none)
  (nsorted:PySem.W.nsIn K mainGlobals "sorted"=some none)
  (nabs:PySem.W.nsIn K mainGlobals "abs"=some none)
  (nrepr:PySem.W.nsIn K mainGlobals "repr"=some none)
  (nValueError:PySem.W.nsIn K mainGlobals "ValueError"=some none)
  (jl:FnIn K "law" sLaw) :
  ∃fd:FuncData,(∀(s:Shared) (v:Value),BindsTo s fd ⟨[v],[]⟩ [("script",v)])/\∀base:Heap,K.In base->base.Ns mainGlobals mg->FnOk l.prog w K mg base CX0 16 fa fd ["script"] (spLaw K):=by
 have T:=TI.txt X G
 obtain⟨f,oc,od,an,osl,kV,doc,pm,cdv,ct,a,lk,c,kp⟩:=jl.ex
 have e:=hfa.symm.trans (PySem.W.mg_of X G a)
 cases e
 have F:=kC_ (st:=sLaw) lk c kp
 refine⟨PySem.W.fnOf "law" "law" (bc_ sLaw) (O_ sLaw) (h_ sLaw) .none kV doc pm an cdv ct,fun s v=>.of_eq rfl,fun base BX _=>?_⟩
 have ndict:mg "dict"=none:=PySem.W.mg_none_of X G ndict
 have nsorted:mg "sorted"=none:=PySem.W.mg_none_of X G nsorted
 have nabs:mg "abs"=none:=PySem.W.mg_none_of X G nabs
 have nrepr:mg "repr"=none:=PySem.W.mg_none_of X G nrepr
 have nValueError:mg "ValueError"=none:=PySem.W.mg_none_of X G nValueError
 have en:ErrNames mg (cs [c0,c1,c2,c3,c4,c5,c6,c7,c8,c9]):=⟨PySem.W.mg_of X G e0,PySem.W.mg_of X G e1,PySem.W.mg_of X G e2,PySem.W.mg_of X G e3,PySem.W.mg_of X G e4,PySem.W.mg_of X G e5,PySem.W.mg_of X G e6,PySem.W.mg_of X G e7,PySem.W.mg_of X G e8,PySem.W.mg_of X G e9,nValueError⟩
 have o5:=pE_ PySem.F.excBase_ValueError BX q5
 have u5:Up K c5 cB:=⟨m5,mB,tB⟩
 have y5:Kind K (cs [c0,c1,c2,c3,c4,c5,c6,c7,c8,c9]) c5 5:=⟨l5,by decide,fun j hj=>match j,hj with | 0,_=>k5_0 | 1,_=>k5_1 | 2,_=>k5_2 | 3,_=>k5_3 | 4,_=>k5_4 | 5,_=>k5_5 | 6,_=>k5_6 | 7,_=>k5_7 | 8,_=>k5_8 | 9,_=>k5_9,v5⟩
 have d_is_whole:Def l.prog w K mg base 1 "is_whole" ["thing"] dP_:=t_ i0 X G (fun _ _ F=>lE_ F T) fun _ _ _ _ _ _=>us1 fun _=>rfl
 have d_is_between:Def l.prog w K mg base 2 "is_between" ["thing","least","greatest"] cO_:=t_ i1 X G (fun _ _ F=>nT_ F d_is_whole) fun _ _ _ _ _ _=>us3 fun _ _ _=>rfl
 have d_is_list_between:Def l.prog w K mg base 3 "is_list_between" ["thing","least","greatest"] gn_:=t_ i2 X G (fun _ _ F=>lJ_ F T d_is_between) fun _ _ _ _ _ _=>us3 fun _ _ _=>rfl
 have d_is_frame:Def l.prog w K mg base 4 "is_frame" ["thing"] cM_:=t_ i3 X G (fun _ _ F=>iw_ F T d_is_between d_is_list_between) fun _ _ _ _ _ _=>us1 fun _=>rfl
 have d_need_frame:Def l.prog w K mg base 5 "need_frame" ["thing"] af_:=t_ i4 X G (fun _ _ F=>fq_ F d_is_frame) fun _ _ _ _ _ _=>us1 fun _=>rfl
 have d_how_many:Def l.prog w K mg base 6 "how_many" ["frame"] N_:=t_ i5 X G (fun _ _ F=>ix_ F T d_need_frame) fun _ _ _ _ _ _=>us1 fun _=>rfl
 have d_need_number:Def l.prog w K mg base 7 "need_number" ["frame","thing"] bi_:=t_ i6 X G (fun _ _ F=>er_ F d_is_between d_how_many) fun _ _ _ _ _ _=>us2 fun _ _=>rfl
 have d_cut_by_parts:Def l.prog w K mg base 1 "cut_by_parts" ["frame","row"] spCut:=t_ i7 X G (fun _ _ F=>oU_ F) fun _ _ _ _ _ _=>us2 fun _ _=>rfl
 have d_figures_of:Def l.prog w K mg base 8 "figures_of" ["frame","n"] ai_:=t_ i8 X G (fun _ _ F=>fr_ F T d_need_frame d_need_number) fun _ _ _ _ _ _=>us2 fun _ _=>rfl
 have d_part_sums:Def l.prog w K mg base 9 "part_sums" ["frame","n"] jo_:=t_ i9 X G (fun _ _ F=>gF_ F T d_figures_of d_cut_by_parts) fun _ _ _ _ _ _=>us2 fun _ _=>rfl
 have d_misses_by:Def l.prog w K mg base 10 "misses_by" ["frame","n"] aY_:=t_ i10 X G (fun _ _ F=>ke_ F T d_part_sums) fun _ _ _ _ _ _=>us2 fun _ _=>rfl
 have d_with_one_more_figure:Def l.prog w K mg base 1 "with_one_more_figure" ["ways","base","weight"] cL_:=t_ i11 X G (fun _ _ F=>iu_ F T) fun _ _ _ _ _ _=>us3 fun _ _ _=>rfl
 have d_ways_of_weights:Def l.prog w K mg base 2 "ways_of_weights" ["base","weights"] gi_:=t_ i12 X G (fun _ _ F=>lF_ F T ndict nsorted d_with_one_more_figure) fun _ _ _ _ _ _=>us2 fun _ _=>rfl
 have d_weighted_sum:Def l.prog w K mg base 1 "weighted_sum" ["figures","weights"] ch_:=t_ i13 X G (fun _ _ F=>gC_ F T) fun _ _ _ _ _ _=>us2 fun _ _=>rfl
 have d_part_beginnings:Def l.prog w K mg base 1 "part_beginnings" ["frame","head","end"] bH_:=t_ i14 X G (fun _ _ F=>fo_ F T) fun _ _ _ _ _ _=>us3 fun _ _ _=>rfl
 have d_stretches_below:Def l.prog w K mg base 9 "stretches_below" ["frame","n"] bG_:=t_ i15 X G (fun _ _ F=>fn_ F T d_how_many d_figures_of) fun _ _ _ _ _ _=>us2 fun _ _=>rfl
 have d_need_miss:Def l.prog w K mg base 2 "need_miss" ["thing"] bt_:=t_ i16 X G (fun _ _ F=>gG_ F d_is_whole) fun _ _ _ _ _ _=>us1 fun _=>rfl
 have d_running_counts:Def l.prog w K mg base 1 "running_counts" ["ways","low","high"] cK_:=t_ i17 X G (fun _ _ F=>it_ F T) fun _ _ _ _ _ _=>us3 fun _ _ _=>rfl
 have d_ways_within:Def l.prog w K mg base 1 "ways_within" ["running_by_part","start","end"] dO_:=t_ i18 X G (fun _ _ F=>ka_ F) fun _ _ _ _ _ _=>us3 fun _ _ _=>rfl
 have d_count_spread_within:Def l.prog w K mg base 2 "count_spread_within" ["ways_by_part","width"] dS_:=t_ i19 X G (fun _ _ F=>kd_ F T d_running_counts d_ways_within) fun _ _ _ _ _ _=>us2 fun _ _=>rfl
 have d_tails_of_part:Def l.prog w K mg base 3 "tails_of_part" ["base","weights"] dR_:=t_ i20 X G (fun _ _ F=>kc_ F T d_ways_of_weights) fun _ _ _ _ _ _=>us2 fun _ _=>rfl
 have d_tails_of_parts:Def l.prog w K mg base 4 "tails_of_parts" ["frame"] cJ_:=t_ i21 X G (fun _ _ F=>is_ F d_cut_by_parts d_tails_of_part) fun _ _ _ _ _ _=>us1 fun _=>rfl
 have d_ways_from_beginnings:Def l.prog w K mg base 2 "ways_from_beginnings" ["rows","weights","tails"] ci_:=t_ i22 X G (fun _ _ F=>gD_ F T d_weighted_sum) fun _ _ _ _ _ _=>us3 fun _ _ _=>rfl
 have d_count_begun:Def l.prog w K mg base 3 "count_begun" ["frame","tails_by_part","d","head","end"] bk_:=t_ i23 X G (fun _ _ F=>eu_ F T d_part_beginnings d_cut_by_parts d_ways_from_beginnings d_count_spread_within) fun _ _ _ _ _ _=>us5 fun _ _ _ _ _=>rfl
 have d_count_below:Def l.prog w K mg base 10 "count_below" ["frame","tails_by_part","d","n"] bj_:=t_ i24 X G (fun _ _ F=>et_ F T d_stretches_below d_count_begun) fun _ _ _ _ _ _=>us4 fun _ _ _ _=>rfl
 have d_need_near:Def l.prog w K mg base 11 "need_near" ["frame","d","thing"] aI_:=t_ i25 X G (fun _ _ F=>da_ F d_is_between d_how_many d_misses_by) fun _ _ _ _ _ _=>us3 fun _ _ _=>rfl
 have d_near_place:Def l.prog w K mg base 12 "near_place" ["frame","d","n"] ag_:=t_ i26 X G (fun _ _ F=>cs_ F d_need_frame d_need_miss d_need_near d_tails_of_parts d_count_below) fun _ _ _ _ _ _=>us3 fun _ _ _=>rfl
 have d_place_of:Def l.prog w K mg base 13 "place_of" ["frame","n"] bh_:=t_ i27 X G (fun _ _ F=>dA_ F d_near_place) fun _ _ _ _ _ _=>us2 fun _ _=>rfl
 have e_need_near:Def1 l.prog w K mg base 11 "need_near" ["frame","d","thing"] (spOr aI_ (aX_ c5)):=gW_ i25 X G (fun _ _ F=>(da_ F d_is_between d_how_many d_misses_by).up.or (fp_ F d_is_between d_how_many d_misses_by o5 en.n5)) fun _ _ _ _ _ _=>us3 fun _ _ _=>rfl
 have e_near_place:Def1 l.prog w K mg base 12 "near_place" ["frame","d","n"] (spOr ag_ (aX_ c5)):=gW_ i26 X G (fun _ _ F=>(cs_ F d_need_frame d_need_miss d_need_near d_tails_of_parts d_count_below).up.or (es_ F d_need_frame d_need_miss e_need_near)) fun _ _ _ _ _ _=>us3 fun _ _ _=>rfl
 have e_place_of:Def1 l.prog w K mg base 13 "place_of" ["frame","n"] (spOr bh_ (gm_ c5)):=gW_ i27 X G (fun _ _ F=>(dA_ F d_near_place).up.or (gE_ F e_near_place)) fun _ _ _ _ _ _=>us2 fun _ _=>rfl
 have d_law_cell:Def l.prog w K mg base 1 "_law_cell" ["script","k"] (jr_ K):=t_ i28 X G (fun _ _ F=>nS_ F T) fun _ _ _ _ _ _=>us2 fun _ _=>rfl
 have d_law_store:Def l.prog w K mg base 1 "_law_store" ["cell"] gj_:=t_ i29 X G (fun _ _ F=>lG_ F) fun _ _ _ _ _ _=>us1 fun _=>rfl
 have d_law_take:Def l.prog w K mg base 1 "_law_take" ["store","many"] dr_:=t_ i30 X G (fun _ _ F=>nN_ F) fun _ _ _ _ _ _=>us2 fun _ _=>rfl
 have d_law_frame:Def l.prog w K mg base 2 "_law_frame" ["store","longest"] go_:=t_ i31 X G (fun _ _ F=>lL_ F T d_law_take) fun _ _ _ _ _ _=>us2 fun _ _=>rfl
 have d_law_many:Def l.prog w K mg base 1 "_law_many" ["frame"] N_:=t_ i32 X G (fun _ _ F=>nO_ F T) fun _ _ _ _ _ _=>us1 fun _=>rfl
 have d_law_figures:Def l.prog w K mg base 1 "_law_figures" ["frame","n"] ai_:=t_ i33 X G (fun _ _ F=>iy_ F T) fun _ _ _ _ _ _=>us2 fun _ _=>rfl
 have d_law_spread:Def l.prog w K mg base 2 "_law_spread" ["frame","n"] aY_:=t_ i34 X G (fun _ _ F=>iv_ F T d_law_figures) fun _ _ _ _ _ _=>us2 fun _ _=>rfl
 have d_law_copy:Def l.prog w K mg base 1 "_law_copy" ["frame"] gp_:=t_ i35 X G (fun _ _ F=>lM_ F T) fun _ _ _ _ _ _=>us1 fun _=>rfl
 have d_law_sheet:Def l.prog w K mg base 1 "_law_sheet" ["frame","d"] gk_:=t_ i36 X G (fun _ _ F=>lH_ F T) fun _ _ _ _ _ _=>us2 fun _ _=>rfl
 have d_law_free_0:Def l.prog w K mg base 1 "_law_free" ["sheet","part","low","high"] (cN_ 0):=t_ i37 X G (fun _ _ F=>lK_ F T) fun _ _ _ _ _ _=>us4 fun _ _ _ _=>rfl
 have d_law_from_0:Def l.prog w K mg base 2 "_law_from" ["sheet","spot","low","high"] (be_ 0):=t_ i38 X G (fun _ _ F=>bn_ F T d_law_free_0) fun _ _ _ _ _ _=>us4 fun _ _ _ _=>rfl
 have d_law_free_1:Def l.prog w K mg base 3 "_law_free" ["sheet","part","low","high"] (cN_ 1):=t_ i37 X G (fun _ _ F=>gH_ F T d_law_from_0) fun _ _ _ _ _ _=>us4 fun _ _ _ _=>rfl
 have d_law_from_1:Def l.prog w K mg base 4 "_law_from" ["sheet","spot","low","high"] (be_ 1):=t_ i38 X G (fun _ _ F=>bn_ F T d_law_free_1) fun _ _ _ _ _ _=>us4 fun _ _ _ _=>rfl
 have d_law_free_2:Def l.prog w K mg base 5 "_law_free" ["sheet","part","low","high"] (cN_ 2):=t_ i37 X G (fun _ _ F=>gH_ F T d_law_from_1) fun _ _ _ _ _ _=>us4 fun _ _ _ _=>rfl
 have d_law_from_2:Def l.prog w K mg base 6 "_law_from" ["sheet","spot","low","high"] (be_ 2):=t_ i38 X G (fun _ _ F=>bn_ F T d_law_free_2) fun _ _ _ _ _ _=>us4 fun _ _ _ _=>rfl
 have d_law_free_3:Def l.prog w K mg base 7 "_law_free" ["sheet","part","low","high"] (cN_ 3):=t_ i37 X G (fun _ _ F=>gH_ F T d_law_from_2) fun _ _ _ _ _ _=>us4 fun _ _ _ _=>rfl
 have d_law_from_3:Def l.prog w K mg base 8 "_law_from" ["sheet","spot","low","high"] (be_ 3):=t_ i38 X G (fun _ _ F=>bn_ F T d_law_free_3) fun _ _ _ _ _ _=>us4 fun _ _ _ _=>rfl
 have d_law_from:Def l.prog w K mg base 8 "_law_from" ["sheet","spot","low","high"] dT_:=t_ i38 X G (fun _ _ F=>mc_ (bn_ F T d_law_free_0) (bn_ F T d_law_free_1) (bn_ F T d_law_free_2) (bn_ F T d_law_free_3)) fun _ _ _ _ _ _=>us4 fun _ _ _ _=>rfl
 have d_law_ends:Def l.prog w K mg base 1 "_law_ends" ["ends","here"] hq_:=t_ i39 X G (fun _ _ F=>nR_ F T) fun _ _ _ _ _ _=>us2 fun _ _=>rfl
 have d_law_below:Def l.prog w K mg base 9 "_law_below" ["sheet","n"] dU_:=t_ i40 X G (fun _ _ F=>lN_ F T d_law_many d_law_from d_law_figures d_law_ends) fun _ _ _ _ _ _=>us2 fun _ _=>rfl
 have d_law_by:Def l.prog w K mg base 9 "_law_by" ["sheet","k"] spBy:=t_ i41 X G (fun _ _ F=>pF_ F T d_law_many d_law_from d_law_ends) fun _ _ _ _ _ _=>us2 fun _ _=>rfl
 have d_law_d:Def l.prog w K mg base 2 "_law_d" ["store","frame"] jp_:=t_ i42 X G (fun _ _ F=>nP_ F T d_law_take) fun _ _ _ _ _ _=>us2 fun _ _=>rfl
 have d_law_kind:Def l.prog w K mg base 1 "_law_kind" ["e","due"] (jq_ K (cs [c0,c1,c2,c3,c4,c5,c6,c7,c8,c9])):=t_ i43 X G (fun _ _ F=>nQ_ F T en) fun _ _ _ _ _ _=>us2 fun _ _=>rfl
 have d_law_told:Def l.prog w K mg base 14 "_law_told" ["door","frame","d","thing"] (jn_ (cs [c0,c1,c2,c3,c4,c5,c6,c7,c8,c9])):=t_ i44 X G (fun _ _ F=>nM_ F (PySem.W.mg_of X G eB) u5 e_place_of e_near_place) fun _ _ _ _ _ _=>us4 fun _ _ _ _=>rfl
 have d_law_things:Def l.prog w K mg base 10 "_law_things" ["store","frame","sheet"] dQ_:=t_ i45 X G (fun _ _ F=>kb_ F T nabs d_law_take d_law_many d_law_below d_law_by) fun _ _ _ _ _ _=>us3 fun _ _ _=>rfl
 have d_law_right:Def l.prog w K mg base 15 "_law_right" ["frame","given","sheet","d","thing"] (gl_ (cs [c0,c1,c2,c3,c4,c5,c6,c7,c8,c9])):=t_ i46 X G (fun _ _ F=>lI_ F T nrepr y5 d_law_many d_law_spread d_law_told d_law_below d_law_kind) fun _ _ _ _ _ _=>us5 fun _ _ _ _ _=>rfl
 exact oT_ F T d_law_cell d_law_store d_law_take d_law_frame d_law_copy d_law_d d_law_sheet d_law_things d_law_right d_place_of
theorem walk{l:PySem.W.OpenLaw}{q:Program}{loose:List Str}{XP:(Str->Option Value)->Heap->Prop}{YP:World->Heap->Prop}{d:DefRec}{K:Params->PySem.W.Frag}(hn:l.most=some 63)(hdf:d.params.defaults=[])
  (hY:∀(w:World) (h:Heap),YP w h->(K w.params).In h)
  (F:∀(w:World) (mg:Str->Option Value) (fa:Addr) (h:Heap),(K w.params).In h->h.Ns mainGlobals mg->mg d.name=some (.ref fa)->
   ∃fd:FuncData,(∀(s:Shared) (u:Value),BindsTo s fd ⟨[u],[]⟩ [("script",u)])/\∀base:Heap,(K w.params).In base->base.Ns mainGlobals mg->FnOk l.prog w (K w.params) mg base CX0 16 fa fd ["script"] (spLaw (K w.params))) :
  PySem.W.WalkO q loose XP YP l.row.toRowW d [] (fun f vs=>PySem.call f vs) :=
 L2.no_ (n:=63) (k:=16) (x:="script") (CX:=fun _=>CX0) (sp:=fun w=>spLaw (K w.params)) hn (by decide) hdf ⟨rfl,by decide,by decide,rfl⟩ hY F (fun _ _ a ns hl _ hS=>⟨a,ns,rfl,hS,hl,fun _=>rfl⟩) fun _ _ _ _ _ z=>z
end Hv
open PySem PySem.W PyProof.Rows
namespace PySem.W.Fast
def tw11555975742454394378:=0
def tw7957855778177193547:=0
def tw5530417912404921686:=0
def tw7230081312483974771:=0
def tw17827137058705643155:=0
def tw16327037701255785343:=0
def tw8326712958334808697:=0
def tw15019698051585609154:=0
def tw17172377495432237695:=0
def tw17347882911714983203:=0
def tw15458024782924709381:=0
def tw289014541364031811:=0
def tw14674201384672497330:=0
def tw18150006536061494346:=0
def tw8891023921589658303:=0
def tw15611095190220519170:=0
def tw11529708400238525309:=0
def tw3414426646522685067:=0
def tw4681939179344902023:=0
def tw12947988398858527576:=0
def tw2600468611433055734:=0
def tw6174377021516330426:=0
def tw9025125502565956884:=0
def tw17323370155025647123:=0
def tw15943760970063319606:=0
def tw579963999736301490:=0
def tw17354231438845973177:=0
def tw18127964899414563774:=0
def tw15757063287647319185:=0
def tw5174280544869783534:=0
def tw7283584823408741024:=0
def tw1771412275342588535:=0
def tw3857644972235708932:=0
def tw12435134149038418722:=0
def tw3402202544813497850:=0
def tw2246465418313516303:=0
def tw16791021232509349395:=0
def tw15570707896177881243:=0
def tw3348944983101042676:=0
def tw1986224245477441980:=0
def tw13650178633682432095:=0
def tw4858360809272126834:=0
def tw8799950996090330603:=0
def tw7328341805285952980:=0
def tw4025899191147120968:=0
def tw13062073108181159020:=0
def tw10299861565782579055:=0
def tw6603079462646308428:=0
def tw13639198453152902944:=0
def tw2960134276829051572:=0
def tw15468064918159331865:=0
def tw18132239099136321866:=0
def tw4353040141417627751:=0
def tw10852797836089881158:=0
def tw9135927931904454077:=0
def tw13190182723717642581:=0
def tw12840793975393129485:=0
def tw5831663548303555347:=0
def tw14761453231770375931:=0
def tw3857462688090496383:=0
def tw17180776536585288661:=0
def tw13883655553423204725:=0
def tw10696451080338399257:=0
def tw817628861143148804:=0
def tw18222066489859577779:=0
def tw961973175472991583:=0
def tw3641308306928695496:=0
def tw16268334032403708301:=0
def tw3422291664457221284:=0
def tw6752537739806414200:=0
def tw6019500101008259444:=0
def tw11525019006128197510:=0
def tw16279793459822665724:=0
def tw7341143524664519667:=0
def tw11420731218147911992:=0
def tw5847812960010744609:=0
def tw16533278091222301290:=0
def tw3216693461373027627:=0
def tw13274402776446327982:=0
def tw7640276357063570156:=0
def tw15643696566337873032:=0
def tw9025442172821460815:=0
def tw12402748611861225384:=0
def tw14443508126357410796:=0
def tw1676545791225462641:=0
def tw15224182698089854510:=0
def tw3233583658999155212:=0
def tw3353781519783201463:=0
def tw7743680449045334310:=0
def tw10169678165768940579:=0
def tw1964105948244599983:=0
def tw4652625020529619325:=0
def tw2264298821625856854:=0
def tw17892145356806207225:=0
def tw8352130413990822234:=0
def tw2343524970394720742:=0
def tw10996234183505627450:=0
def tw7277010807636321483:=0
def tw362832178081731117:=0
def tw14648420513205839089:=0
def tw13272293333457934138:=0
def tw12235118315610039865:=0
def tw11573566607110419142:=0
def tw13679940822491368716:=0
def tw9359393560959599182:=0
def tw12971641778331955466:=0
def tw9290736541679565283:=0
def tw4448938400707342608:=0
def tw8670434747972784180:=0
def tw546223011326331185:=0
def tw9204344423677904765:=0
def tw9433961818584057031:=0
def tw2529818940423282073:=0
def tw826729557479678302:=0
def tw2635969128412452727:=0
def tw16853413277551373763:=0
def tw12481621418007605476:=0
def tw6955375365916653733:=0
def tw11276789395834884295:=0
def tw16625328001590617202:=0
def tw8801191382324713946:=0
def tw914733461781536802:=0
def tw2311508570661923939:=0
def tw11798193886422421426:=0
def tw16996351995560480168:=0
def tw17059939738004715833:=0
def tw9931152286930331427:=0
def tw5261774218724938585:=0
def tw12678882664621804930:=0
def tw3638888583910635418:=0
def tw5214042143722885192:=0
def tw9564578908482836767:=0
def tw16086483478510245460:=0
def tw18001777498833627727:=0
def tw5241924076083684095:=0
def tw7996428534404944197:=0
def tw9652990706831810195:=0
def tw1199739373624888012:=0
def tw10646016531138686150:=0
def tw13003591200386643516:=0
def tw14052720114264069188:=0
def tw16735809929476964599:=0
def tw13537032330022588387:=0
def tw13602994275103344090:=0
def tw15791609529881235801:=0
def tw13822502378116744987:=0
def tw11225001753722406880:=0
def tw2391487996745729338:=0
def tw6973860625111335796:=0
def tw4322031551835326123:=0
def tw17547049283739692335:=0
def tw754779615935613803:=0
def tw12637394833421272428:=0
def tw7441456230393769761:=0
def tw3694449857707980947:=0
def tw11929292871021982578:=0
def tw10748634140568908654:=0
def tw15648123698925833106:=0
def tw2567190409958262713:=0
def tw11735251591173242164:=0
def tw708934849154668221:=0
def tw10351189860615342295:=0
def tw7339041403642937989:=0
def tw13801475335595771346:=0
def tw3603465514926497804:=0
def tw16974893637847012747:=0
def tw1636552759166568419:=0
def tw14981386853843285627:=0
def tw10900416350171504405:=0
def tw14488594053771260727:=0
def tw1603176198317582744:=0
def tw6564200940054259079:=0
def tw433922722499030612:=0
def tw7765541609519614476:=0
def tw11194593583075149376:=0
def tw13369752041155884821:=0
def tw7096308056111582919:=0
def tw8482672509318447211:=0
def tw2402984242362323524:=0
def tw308253904503908617:=0
def tw10018649079962192729:=0
def tw1070976222412342916:=0
def tw15196256473759093103:=0
def tw11777317102554749181:=0
def tw13800074416265825035:=0
def tw1603379891366843366:=0
def tw110418695477985736:=0
def tw14437878307267973937:=0
def tw18071544487179819856:=0
def tw4289497201949117774:=0
def tw1901733877548719365:=0
def tw2840619031133039925:=0
def tw9589884708440451776:=0
def tw8538156317156284433:=0
def tw14433915752067225710:=0
def tw3863607161150515827:=0
def tw2397409984098907271:=0
def tw16414194700743824094:=0
def tw9607276966584835020:=0
def tw7400155882924515945:=0
def tw7176539861677724377:=0
def tw13144354710164419182:=0
def tw16372903095628123297:=0
def tw3184062750938345111:=0
def tw170467352291503666:=0
def tw1749678763755496139:=0
def tw16836986514695479543:=0
def tw15640042113270568129:=0
def tw8921738784853182049:=0
def tw8524950379601145718:=0
def tw14904374143352780666:=0
def tw9269693267270306160:=0
def tw11629939093426554456:=0
def tw15123158809652557406:=0
def tw8503306417317620555:=0
def tw12455335078512173016:=0
def tw17154306924200957635:=0
def tw9329976863939567553:=0
def tw16230097734998010611:=0
def tw9120014822824375278:=0
def tw14109098179487090449:=0
def tw6603209989564959036:=0
def tw3723840573384135620:=0
def tw8083008366553843050:=0
def tw9626833161873784608:=0
def tw9041294575129157415:=0
def tw15702077508987019583:=0
def tw15986006858384305518:=0
def tw13711006265160591592:=0
def tw13765419272987352442:=0
def tw2688116734872055012:=0
def tw17739011035574510030:=0
def tw11996977355779052761:=0
def tw1869887119678880947:=0
def tw7111812293788998073:=0
def tw14827599393657943951:=0
def tw13061873497788024192:=0
def tw798718012301476514:=0
def tw3443791824578621417:=0
def tw10010944311663247519:=0
def tw99022033478409261:=0
def tw7232185145541337327:=0
def tw14152658781199359818:=0
def tw508193247406535207:=0
def tw5555611420609568393:=0
def tw15962359717491425007:=0
def tw5837435749454493563:=0
def tw10598095938228113786:=0
def tw3705310882448859279:=0
def tw3888563180198979172:=0
def tw7406305900062286618:=0
def tw12529242658434363201:=0
def tw16274614138183398249:=0
def tw11212328824423710417:=0
def tw1870878511794284524:=0
def tw938893846631900609:=0
def tw8388949755516347917:=0
def tw7867739225258091826:=0
def tw8786099822623251999:=0
def tw3010690896504379458:=0
def tw11424497120680833780:=0
def tw16738883251467974999:=0
def tw14749945561736178477:=0
def tw10450339509164563853:=0
def tw3331681020444858266:=0
def tw14994177021576096980:=0
def tw10950986874658126249:=0
def tw2107592078992999895:=0
def tw5885521608686194715:=0
def tw6959099934045039411:=0
def tw13301556034517658491:=0
def tw17088441485364126520:=0
def tw14604515377198357263:=0
def tw2362741510567168137:=0
def tw17045758125347968586:=0
def tw6722405986276976201:=0
def tw1677921845169068390:=0
def tw7561373159986379647:=0
def tw12464093430718166827:=0
def tw14641261628316008571:=0
def tw12694612866803513765:=0
def tw8275186963106008667:=0
def tw12668014927637465304:=0
def tw2556508015915251818:=0
def tw7066326106887045596:=0
def tw5591108025549237173:=0
def tw5212476308248256066:=0
def tw2780177439761292905:=0
def tw8970082911274959880:=0
def tw9206071248401054675:=0
def tw8892470947650172663:=0
def tw17249456330288297101:=0
def tw16186408263268156045:=0
def tw8891224735521530735:=0
def tw1234828601251335746:=0
def tw1657889039980345215:=0
def tw16208592026948996178:=0
def tw11012075615795508475:=0
def tw3283246699611333236:=0
def tw14379642895465214440:=0
def tw5910258904247930840:=0
def tw11255310391009138951:=0
def tw16387696482211833138:=0
def tw17473290011948951353:=0
def tw962604006512912337:=0
def tw12099631342181361244:=0
def tw10956529285891649964:=0
def tw9291037199452597897:=0
def tw13268820338309553668:=0
def tw14253680705597781459:=0
def tw12354314453841185239:=0
def tw10283174848590720902:=0
def tw13507326013730127479:=0
def tw4642383389979161085:=0
def tw5253207873913733992:=0
def tw6740460775258866740:=0
def tw7896529515709699364:=0
def tw16883004538689490207:=0
def tw15440066716964306858:=0
def tw18235576842055629305:=0
def tw10190948032052414751:=0
def tw17857310449495638669:=0
def tw17279408348518180487:=0
def tw10542572126777626586:=0
def tw10209945225687004886:=0
def tw10879033775330515470:=0
def tw4195106494145550655:=0
def tw8348104760382284207:=0
def tw6431628250536180645:=0
def tw2949174869943995098:=0
def tw3089641557707687446:=0
def tw6773657226902977584:=0
def tw1816316467574164562:=0
def tw7537512503453350011:=0
def tw15467075675303026620:=0
def tw18383766861249250566:=0
def tw15311014442721565893:=0
def tw82398366648467284:=0
def tw7245686900042132835:=0
def tw685532474000263181:=0
def tw10331756892090880445:=0
def tw2067264798890038446:=0
def tw2567338087389669546:=0
def tw18057990743839924404:=0
def tw14024815979182314350:=0
def tw12735288934298346586:=0
def tw15561150713804818418:=0
def tw8204675167243708757:=0
def tw15031529449176531928:=0
def tw15827980182964538127:=0
def tw5112736909303880154:=0
def tw14027736112277184736:=0
def tw7067341990536407254:=0
def tw17676349177095828893:=0
def tw16628159565951037432:=0
def tw90822918506225852:=0
def tw7912087232870420956:=0
def tw2527818301100107485:=0
def tw8064492880129275219:=0
def tw8549454891294814831:=0
def tw5125708518129529316:=0
def tw4497127375350182707:=0
def tw132147169195058818:=0
def tw820487036148164521:=0
def tw4116275002275474933:=0
def tw6835464744866338933:=0
def tw3074864850952054829:=0
def tw12802521246205448568:=0
def tw14792765386002934511:=0
def tw14211161588603410554:=0
def tw5529855358994594247:=0
def tw2162192517355846708:=0
def tw13698589702733973955:=0
def tw15278132810638710005:=0
def tw9596098953275317629:=0
def tw12393284191770400676:=0
def tw2010367118187045852:=0
def tw7457995863576243841:=0
def tw15602694726963523583:=0
def tw13131608741128264277:=0
def tw17523061361286531954:=0
def tw7122906534479825184:=0
def tw5540935131564500195:=0
def tw11686187218152756878:=0
def tw16562724996804897739:=0
def tw2993998460586451419:=0
def tw6924072655557520990:=0
def tw4444941565033458621:=0
def tw9688627982076693010:=0
def tw12738626634923680560:=0
def tw2121054179710765234:=0
def tw9415203026829585856:=0
def tw846765222676560218:=0
def tw12176309342404750499:=0
def tw1252177536878952065:=0
def tw18249024025265793239:=0
def tw15253117816901726056:=0
def tw2845699524772469434:=0
def tw10106433876150719850:=0
def tw4270535572285055814:=0
def tw15335728608179697588:=0
def tw4034318074322922373:=0
def tw16154974133198856488:=0
def tw7235114907204942152:=0
def tw13581805945824031486:=0
def tw18022505506938604251:=0
def tw13451560141910526452:=0
def tw5913409969256455274:=0
def tw6044856840920471549:=0
def tw17682562355045738125:=0
def tw10187996807080766311:=0
def tw6520148804651961398:=0
def tw10637954623659208585:=0
def tw17069170624086095964:=0
def tw8394028812081821634:=0
def tw11508499516338872686:=0
def tw15232724909965508626:=0
def tw17490745764478982550:=0
def tw14517829319196195316:=0
def tw6397468515386861312:=0
def tw16532713425002437733:=0
def tw16581152169801140610:=0
def tw10847162010015751808:=0
def tw16911694595629412450:=0
def tw7311535690307499354:=0
def tw9429717150002909599:=0
def tw3383260005478061283:=0
def tw7383464247804233004:=0
def tw6988309269632951925:=0
def tw8427987035723696849:=0
def tw13328460469804365940:=0
def tw8912243660651616739:=0
def tw13003123976992006003:=0
def tw4130453988452992156:=0
def tw3368480646667361308:=0
def tw14820525463380685149:=0
def tw17540363473827814073:=0
def tw3897414595415518504:=0
def tw1577198288568806842:=0
def tw3304891195807063146:=0
def tw9177809623333716339:=0
def tw11140179194067880074:=0
def tw5014486157256328763:=0
def tw10246272485264394618:=0
def tw16931288567175861510:=0
def tw13157609641281585987:=0
def tw9486997565670795490:=0
def tw13258111392105356765:=0
end PySem.W.Fast
set_option maxRecDepth 100000 in
set_option maxHeartbeats 0 in
theorem PySem.Challenge.cw_likehalves_k15_places_of_near_ones_holds : PySem.Challenge.rw_likehalves_k15_places_of_near_ones.Holds := by
 w_on;o_law;k_head;(case hw=>w_witness2)
 k_fill
 refine Hv.walk (l := PySem.Challenge.rw_likehalves_k15_places_of_near_ones) rfl rfl (fun w h Y => PySem.W.kIn_of Y) ?F
 case F =>
  intro w mg fa h KX G hmg
  refine' Hv.pz_ KX G hmg ?t ?i0 ?i1 ?i2 ?i3 ?i4 ?i5 ?i6 ?i7 ?i8 ?i9 ?i10 ?i11 ?i12 ?i13 ?i14 ?i15 ?i16 ?i17 ?i18 ?i19 ?i20 ?i21 ?i22 ?i23 ?i24 ?i25 ?i26 ?i27 ?i28 ?i29 ?i30 ?i31 ?i32 ?i33 ?i34 ?i35 ?i36 ?i37 ?i38 ?i39 ?i40 ?i41 ?i42 ?i43 ?i44 ?i45 ?i46 ?eB ?e0 ?e1 ?e2 ?e3 ?e4 ?e5 ?e6 ?e7 ?e8 ?e9 ?tB ?mB ?q5 ?m5 ?l5 ?v5 ?k5_0 ?k5_1 ?k5_2 ?k5_3 ?k5_4 ?k5_5 ?k5_6 ?k5_7 ?k5_8 ?k5_9 ?ndict ?nsorted ?nabs ?nrepr ?nValueError ?jl
  case eB=>k_is
  case e0=>k_is
  case e1=>k_is
  case e2=>k_is
  case e3=>k_is
  case e4=>k_is
  case e5=>k_is
  case e6=>k_is
  case e7=>k_is
  case e8=>k_is
  case e9=>k_is
  case tB=>k_is
  case mB=>k_is
  case q5=>kernel_rfl
  case m5=>k_is
  case l5=>exact⟨by k_is,by k_is,by kernel_rfl,by k_is,by k_is⟩
  case v5=>kernel_rfl
  case k5_0=>kernel_rfl
  case k5_1=>kernel_rfl
  case k5_2=>kernel_rfl
  case k5_3=>kernel_rfl
  case k5_4=>kernel_rfl
  case k5_5=>kernel_rfl
  case k5_6=>kernel_rfl
  case k5_7=>kernel_rfl
  case k5_8=>kernel_rfl
  case k5_9=>kernel_rfl
  case ndict=>k_is
  case nsorted=>k_is
  case nabs=>k_is
  case nrepr=>k_is
  case nValueError=>k_is
  case t=>refine⟨?_,?_,?_,?_,?_,?_,?_,?_,?_,?_,?_,?_,?_,?_⟩ <;> k_is
  all_goals
   refine' Hv.pI_ ?a ?l ?c ?k
   (case a=>k_is);(case l=>k_is);(case c=>k_is);(case k=>k_is)
#print axioms PySem.Challenge.cw_likehalves_k15_places_of_near_ones_holds
