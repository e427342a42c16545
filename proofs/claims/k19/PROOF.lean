import PyProof.Rows.All
import Wide.All
import OpenK.AllK
import Wide.FinOn
import Lean
import PyProof.EqAt
import PyProof.EqKinds
import PyProof.TupleCall
import KE.KIsAll
import KE.KItem
import KE.KxBytes
import KE.KRevIter
import KE.KDictOf
import KE.KTurnsDict
import KE.KPairComp
import PyProof.Rows.SortShell
import KE.KDictList
import PyProof.AttrMissSeq
import PyProof.DictUpdate
import PyProof.WalksS
import PyProof.ListRange
import KE.KEqDict
import PyProof.SumWalkG
import PyProof.ListNew
import PyProof.LongRange
import PySem.Challenge.RW_likehalves_k19_sums_of_even_ones
set_option compiler.extract_closed false
set_option genSizeOf false
set_option Elab.async false
set_option linter.all false
set_option maxRecDepth 100000
namespace L2
open PySem PySem.Spec PyProof.Rows
noncomputable abbrev Key:=Sum Int Str
noncomputable def keyIs:Key→Value→Bool
 | .inl k,v=>Value.isInt k v
 | .inr x,v=>Value.isStrOf x v
noncomputable def keyH(w:World):Key→Int
 | .inl k=>hashInt k
 | .inr x=>hashStr w x
theorem keyIs_shape:∀ {k:Key} {v:Value},keyIs k v=true→(∃ i t,k=Sum.inl i∧v=Value.int i t)∨(∃ x t,k=Sum.inr x∧v=Value.str x t)
 | .inl i,v,h=>by
  obtain ⟨t,e⟩:=Value.isInt_shape (k:=i) (v:=v) h
  exact .inl ⟨i,t,rfl,e⟩
 | .inr x,v,h=>by
  obtain ⟨t,e⟩:=Value.isStrOf_shape (x:=x) (v:=v) h
  exact .inr ⟨x,t,rfl,e⟩
theorem keyIs_int(i:Int)(t:Tok):keyIs (.inl i) (.int i t)=true:=by simp [keyIs,Value.isInt]
theorem keyIs_str(x:Str)(t:Tok):keyIs (.inr x) (.str x t)=true:=by simp [keyIs,Value.isStrOf]
theorem key_ll(a b:Int):decide ((Sum.inl a:Key)=Sum.inl b)=(a==b):=by
 by_cases e:a=b
 ·subst e;simp
 ·have h:¬ (Sum.inl a:Key)=Sum.inl b:=fun q=>e (Sum.inl.inj q)
  rw [decide_eq_false h]
  exact (beq_eq_false_iff_ne.mpr e).symm
theorem key_rr(a b:Str):decide ((Sum.inr a:Key)=Sum.inr b)=decide (a=b):=by
 by_cases e:a=b
 ·subst e;simp
 ·have h:¬ (Sum.inr a:Key)=Sum.inr b:=fun q=>e (Sum.inr.inj q)
  rw [decide_eq_false h,decide_eq_false e]
theorem key_lr(a:Int)(b:Str):decide ((Sum.inl a:Key)=Sum.inr b)=false:=decide_eq_false (fun q=>nomatch q)
theorem key_rl(a:Str)(b:Int):decide ((Sum.inr a:Key)=Sum.inl b)=false:=decide_eq_false (fun q=>nomatch q)
noncomputable def mixKind(prog:Program)(w:World):PySem.KeyKind prog w Key where
 is:=keyIs
 hash:=keyH w
 inj:=fun v a b ha hb=>by
  rcases keyIs_shape ha with ⟨i,t,rfl,rfl⟩ | ⟨x,t,rfl,rfl⟩
  ·rcases keyIs_shape hb with ⟨j,u,rfl,e⟩ | ⟨y,u,rfl,e⟩
   ·injection e with e1 _;rw [e1]
   ·exact nomatch e
  ·rcases keyIs_shape hb with ⟨j,u,rfl,e⟩ | ⟨y,u,rfl,e⟩
   ·exact nomatch e
   ·injection e with e1 _;rw [e1]
 byValue:=fun k v h=>by
  rcases keyIs_shape h with ⟨i,t,rfl,rfl⟩ | ⟨x,t,rfl,rfl⟩ <;> rfl
 pyHash:=fun hv h=>by
  rcases keyIs_shape hv with ⟨i,t,rfl,rfl⟩ | ⟨x,t,rfl,rfl⟩
  ·exact wpAny_pyHash_int h
  ·exact wpAny_pyHash_str h
 eqBool:=fun hu hv h=>by
  rcases keyIs_shape hu with ⟨i,t,rfl,rfl⟩ | ⟨x,t,rfl,rfl⟩
  ·rcases keyIs_shape hv with ⟨j,u,rfl,rfl⟩ | ⟨y,u,rfl,rfl⟩
   ·rw [key_ll] at h;exact wpAny_eqBool_int h
   ·rw [key_lr] at h;exact SeqAt.EqAt.int_str i t y u _ _ _ _ h
  ·rcases keyIs_shape hv with ⟨j,u,rfl,rfl⟩ | ⟨y,u,rfl,rfl⟩
   ·rw [key_rl] at h;exact SeqAt.EqAt.str_int x t j u _ _ _ _ h
   ·rw [key_rr] at h;exact wpAny_eqBool_str h
 «strs»:=fun k x t v h=>by
  rcases keyIs_shape h with ⟨i,u,rfl,e⟩ | ⟨y,u,rfl,e⟩
  ·exact nomatch e
  ·injection e with e1 _
   subst e1
   cases v <;> rfl
theorem mixKind_int(prog:Program)(w:World)(i:Int)(t:Tok):(mixKind prog w).is (.inl i) (.int i t)=true:=keyIs_int i t
theorem mixKind_str(prog:Program)(w:World)(x:Str)(t:Tok):(mixKind prog w).is (.inr x) (.str x t)=true:=keyIs_str x t
end L2
namespace L2
open PySem PySem.Spec PyProof.Rows
inductive V where
 | non | bl (b:Bool) | int (i:Int) | str (x:Str) | byt (b:Array UInt8) | flt (b:UInt64) | ref (a:Addr) | ty (n:String)
 deriving DecidableEq
noncomputable def RelV:V→Value→Prop
 | .non,u=>u=Value.none
 | .bl b,u=>u=Value.bool b
 | .int i,u=>∃ t,u=Value.int i t
 | .str x,u=>∃ t,u=Value.str x t
 | .byt b,u=>∃ t,u=Value.bytes b t
 | .flt b,u=>∃ t,u=Value.float b t
 | .ref a,u=>u=Value.ref a
 | .ty n,u=>u=Value.type n
noncomputable abbrev Vals:List V→List Value→Prop:=Paired RelV
theorem Vals.length{xs:List V}{us:List Value}(r:Vals xs us):xs.length=us.length:=Paired.length r
theorem Vals.get:∀ {xs:List V} {us:List Value} {i:Nat} {x:V},Vals xs us→xs[i]?=some x→∃ u,us[i]?=some u∧RelV x u
 | _,_,_,_,.nil,e=>by simp at e
 | _,_,0,_,.cons r _,e=>by simp at e;subst e;exact ⟨_,rfl,r⟩
 | _,_,i+1,x,.cons _ t,e=>by
  obtain ⟨u,h1,h2⟩:=Vals.get (i:=i) (x:=x) t (by simpa using e)
  exact ⟨u,by simpa using h1,h2⟩
theorem Vals.set{x:V}{u:Value}(r:RelV x u):∀ {xs:List V} {us:List Value} (i:Nat),Vals xs us→Vals (xs.set i x) (us.set i u)
 | _,_,_,.nil=>.nil
 | _,_,0,.cons _ t=>.cons r t
 | _,_,i+1,.cons q t=>.cons q (Vals.set r i t)
theorem Vals.append{xs ys:List V}{us ws:List Value}(a:Vals xs us)(b:Vals ys ws):Vals (xs++ys) (us++ws):=by
 induction a with
 | nil=>exact b
 | cons r _ ih=>exact .cons r ih
theorem Vals.take:∀ {xs:List V} {us:List Value} (n:Nat),Vals xs us→Vals (xs.take n) (us.take n)
 | _,_,0,_=>.nil
 | _,_,_+1,.nil=>.nil
 | _,_,n+1,.cons r t=>.cons r (Vals.take n t)
theorem Vals.drop:∀ {xs:List V} {us:List Value} (n:Nat),Vals xs us→Vals (xs.drop n) (us.drop n)
 | _,_,0,r=>r
 | _,_,_+1,.nil=>.nil
 | _,_,n+1,.cons _ t=>Vals.drop n t
theorem Vals.none_of:∀ {xs:List V} {us:List Value} {i:Nat},Vals xs us→xs[i]?=none→us[i]?=none:=fun {xs us i} r e=>by
 have h1:=r.length
 have h2:xs.length≤i:=List.getElem?_eq_none_iff.mp e
 exact List.getElem?_eq_none_iff.mpr (by omega)
noncomputable def RelO:Option V→Option Value→Prop
 | some v,some u=>RelV v u
 | none,none=>True
 | _,_=>False
noncomputable def KV{κ:Type}:List (κ×V)→List (κ×Value)→Prop:=Paired fun (p:κ×V) (q:κ×Value)=>p.1=q.1∧RelV p.2 q.2
noncomputable def kV:Key→V
 | .inl i=>.int i
 | .inr x=>.str x
inductive HO where
 /-- a list -/
 | lst (xs:List V)
 /-- a tuple (never changes) -/
 | tup (xs:List V)
 /-- a dict whose keys are ints and texts; one whose keys are tuples of ints and texts (the empty one is both) -/
 | dK (kvs:List (Key×V)) | dT (kvs:List (List Key×V))
 /-- a set of ints: its members, its size -/
 | set (S:Int→Bool) (n:Nat)
 /-- an instance of the class at C, its dict at dx, its attributes -/
 | ins (C dx:Addr) (fs:List (Str×V))
 /-- the dict of the instance at x -/
 | own (x:Addr)
 /-- the dict of an exception -/
 | xd (fs:List (Str×V))
 /-- a bound method, f of x -/
 | met (f x:Addr)
 /-- a range object lo, lo + 1, .. below hi -/
 | rng (lo hi:Int)
 /-- a thing that is known to the object (the script; a dict while a loop walks it): read, never written while it is so -/
 | frz (o:Obj) (u:HO)
 /-- a code object's table -/
 | tbl (ps:Array Value)
 /-- any other thing, by what is true of its one object (a def of one's own: SetO a S n := HO.ext fun h => ..) -/
 | ext (φ:Heap→Prop)
noncomputable abbrev Hp:=Addr→Option HO
noncomputable def upd(H:Hp)(a:Addr)(o:HO):Hp:=fun b=>if b=a then some o else H b
theorem upd_same{H:Hp}{a:Addr}{o:HO}:upd H a o a=some o:=by unfold upd;rw [if_pos rfl]
theorem upd_ne{H:Hp}{a b:Addr}{o:HO}(h:b≠a):upd H a o b=H b:=by unfold upd;rw [if_neg h]
theorem ne_of{H:Hp}{a b:Addr}{o u:HO}(h:H a=some o)(h':H b=some u)(d:o≠u):a≠b:=by
 intro e;subst e;rw [h] at h';exact d (Option.some.inj h')
theorem ne_of_none{H:Hp}{a b:Addr}{o:HO}(h:H a=some o)(h':H b=none):a≠b:=by
 intro e;subst e;rw [h] at h';cases h'
section
variable(P:Program)(w:World)
noncomputable def ObjOk(H:Hp)(h:Heap)(a:Addr):HO→Prop
 | .lst xs=>xs.length≤sizeLine∧∃ (its:List Value) (n:Nat),Vals xs its∧h.get? a=some {cls:=.type "list",data:=.seq its.toArray n}
 | .tup xs=>xs.length≤sizeLine∧∃ its:List Value,Vals xs its∧IsTup h a its.toArray
 | .dK kvs=>kvs.length≤sizeLine∧(a==sysModules)=false∧∃ vs,KV kvs vs∧h.DictOf (mixKind P w) a vs
 | .dT kvs=>kvs.length≤sizeLine∧(a==sysModules)=false∧∃ xs:List (List Key×Addr×Value),
   Paired (fun (p:List Key×V) (q:List Key×Addr×Value)=>p.1=q.1∧H q.2.1=some (.tup (p.1.map kV))∧RelV p.2 q.2.2) kvs xs∧
   ∃ o es ep,h.get? a=some o∧o.ExactDict∧o.data=.dict es ep∧es.toList=xs.map (entryOfKey (tupleKind (mixKind P w)))∧(xs.map (·.1)).Nodup
 | .set S n=>h.SetOf (intKind P w) a S n
 | .ins C dx fs=>H dx=some (.own a)∧fs.length≤1000∧dx≠a∧h.get? a=some (PySem.W.instObj C dx)∧
   ∃ mA,h.Ns1 dx mA∧(∀ f,RelO (fs.lookup f) (mA f))∧PySem.Within mA (fs.map (·.1))
 | .own _=>∃ o,h.get? a=some o
 | .xd fs=>∃ mA,h.Ns1 a mA∧∀ f,RelO (fs.lookup f) (mA f)
 | .rng lo hi=>∃ t u v,h.get? a=some {cls:=.type "range",data:=.fields #[.int lo t,.int hi u,.int 1 v]}
 | .frz o u=>h.get? a=some o∧ObjOk H h a u
 | .tbl ps=>h.get? a=some {cls:=.none,data:=.fields ps}
 | .met f x=>h.get? a=some (PySem.W.methodObj (.ref f) (.ref x))
 | .ext φ=>φ h∧(∃ o,h.get? a=some o)∧∀ h1 h2:Heap,φ h1→(∀ o,h1.get? a=some o→h2.get? a=some o)→φ h2
noncomputable def HOk(H:Hp)(h:Heap):Prop:=∀ a o,H a=some o→ObjOk P w H h a o
end
section
variable{P:Program}{w:World}{H H':Hp}{h h':Heap}{a:Addr}{o:HO}
theorem ObjOk.lt(x:ObjOk P w H h a o):a<h.objs.size:=by
 cases o with
 | lst xs=>obtain ⟨_,_,_,_,e⟩:=x;exact Heap.lt_size e
 | tup xs=>obtain ⟨_,_,_,p⟩:=x;exact p.lt
 | dK kvs=>obtain ⟨_,_,_,_,o,_,_,e,_⟩:=x;exact Heap.lt_size e
 | dT kvs=>obtain ⟨_,_,_,_,o,_,_,e,_⟩:=x;exact Heap.lt_size e
 | set S n=>obtain ⟨o,_,_,_,e,_⟩:=x;exact Heap.lt_size e
 | ins C dx fs=>obtain ⟨_,_,_,e,_⟩:=x;exact Heap.lt_size e
 | own y=>obtain ⟨_,e⟩:=x;exact Heap.lt_size e
 | xd fs=>obtain ⟨_,⟨_,_,_,e,_⟩,_⟩:=x;exact Heap.lt_size e
 | rng lo hi=>obtain ⟨_,_,_,e⟩:=x;exact Heap.lt_size e
 | frz ob u=>obtain ⟨e,_⟩:=x;exact Heap.lt_size e
 | tbl ps=>exact Heap.lt_size (show h.get? a=some _ from x)
 | met f y=>exact Heap.lt_size (show h.get? a=some _ from x)
 | ext φ=>obtain ⟨_,⟨_,e⟩,_⟩:=x;exact Heap.lt_size e
theorem Paired.mapP{α β:Type}{F G:α→β→Prop}{l₁:List α}{l₂:List β}(h:Paired F l₁ l₂)(f:∀ a b,F a b→G a b):Paired G l₁ l₂:=by
 induction h with
 | nil=>exact .nil
 | cons r _ ih=>exact .cons (f _ _ r) ih
theorem ObjOk.stay(x:ObjOk P w H h a o)(k:∀ b u,(b=a∨H b=some (.own a))→h.get? b=some u→h'.get? b=some u)
  (ho:∀ b,H b=some (.own a)→H' b=some (.own a)) (ht:∀ b xs,H b=some (.tup xs)→H' b=some (.tup xs)):ObjOk P w H' h' a o:=by
 induction o with
 | lst xs=>obtain ⟨z,its,n,r,e⟩:=x;exact ⟨z,its,n,r,k _ _ (.inl rfl) e⟩
 | tup xs=>obtain ⟨z,its,r,ob,e,c⟩:=x;exact ⟨z,its,r,ob,k _ _ (.inl rfl) e,c⟩
 | dK kvs=>obtain ⟨z,y,vs,r,ob,es,ep,e,c⟩:=x;exact ⟨z,y,vs,r,ob,es,ep,k _ _ (.inl rfl) e,c⟩
 | dT kvs =>
  obtain ⟨z,y,xs,r,ob,es,ep,e,c⟩:=x
  exact ⟨z,y,xs,Paired.mapP r fun p q z=>⟨z.1,ht _ _ z.2.1,z.2.2⟩,ob,es,ep,k _ _ (.inl rfl) e,c⟩
 | set S n=>obtain ⟨ob,es,ep,t,e,c⟩:=x;exact ⟨ob,es,ep,t,k _ _ (.inl rfl) e,c⟩
 | ins C dx fs =>
  obtain ⟨d,z,ne,e,mA,⟨od,es,ep,e2,c⟩,r⟩:=x
  exact ⟨ho _ d,z,ne,k _ _ (.inl rfl) e,mA,⟨od,es,ep,k _ _ (.inr d) e2,c⟩,r⟩
 | own y=>obtain ⟨ob,e⟩:=x;exact ⟨ob,k _ _ (.inl rfl) e⟩
 | xd fs=>obtain ⟨mA,⟨od,es,ep,e,c⟩,r⟩:=x;exact ⟨mA,⟨od,es,ep,k _ _ (.inl rfl) e,c⟩,r⟩
 | rng lo hi=>obtain ⟨t,u,v,e⟩:=x;exact ⟨t,u,v,k _ _ (.inl rfl) e⟩
 | frz ob u ih=>obtain ⟨e,q⟩:=x;exact ⟨k _ _ (.inl rfl) e,ih q⟩
 | tbl ps =>
  have e:h.get? a=some {cls:=.none,data:=.fields ps}:=x
  show h'.get? a=some {cls:=.none,data:=.fields ps}
  exact k a _ (.inl rfl) e
 | met f y =>
  have e:h.get? a=some (PySem.W.methodObj (.ref f) (.ref y)):=x
  show h'.get? a=some (PySem.W.methodObj (.ref f) (.ref y))
  exact k a _ (.inl rfl) e
 | ext φ=>obtain ⟨p,⟨o,e⟩,st⟩:=x;exact ⟨st _ _ p fun o q=>k _ _ (.inl rfl) q,⟨o,k _ _ (.inl rfl) e⟩,st⟩
theorem HOk.lt(x:HOk P w H h)(e:H a=some o):a<h.objs.size:=(x a o e).lt
theorem HOk.fresh(x:HOk P w H h)(e:h.objs.size≤a):H a=none:=by
 cases q:H a with
 | none=>rfl
 | some u=>exact absurd (Nat.lt_of_lt_of_le (x.lt q) e) (Nat.lt_irrefl _)
theorem HOk.kept(x:HOk P w H h)(k:∀ b u,h.get? b=some u→h'.get? b=some u):HOk P w H h':=fun a o e =>
 (x a o e).stay (fun b u _ q=>k b u q) (fun _ q=>q) fun _ _ q=>q
theorem HOk.laid(x:HOk P w H h)(k:∀ b u,h.get? b=some u→h'.get? b=some u)(hp:h.objs.size≤a)(new:ObjOk P w (upd H a o) h' a o):HOk P w (upd H a o) h':=fun b u e=>by
 have hn:=x.fresh hp
 by_cases hb:b=a
 ·subst hb;rw [upd_same] at e;cases e;exact new
 ·rw [upd_ne hb] at e
  exact (x b u e).stay (fun c v _ q=>k c v q) (fun c q=>by rw [upd_ne (ne_of_none q hn)];exact q) fun c xs q=>by rw [upd_ne (ne_of_none q hn)];exact q
end
noncomputable def Rd(H:Hp)(a:Addr)(u:HO):Prop:=H a=some u∨∃ o,H a=some (.frz o u)
theorem Rd.ok{P:Program}{w:World}{H:Hp}{h:Heap}{a:Addr}{u:HO}(r:Rd H a u)(x:HOk P w H h):ObjOk P w H h a u:=by
 rcases r with r | ⟨o,r⟩
 ·exact x a u r
 ·obtain ⟨_,q⟩:=x a _ r
  exact q
noncomputable def Mut:Option HO→Prop
 | some (.lst _)=>True
 | some (.dK _)=>True
 | some (.dT _)=>True
 | some (.set _ _)=>True
 | some (.ins _ _ _)=>True
 | some (.ext _)=>True
 | _=>False
section
variable{P:Program}{w:World}{H:Hp}{h h':Heap}{x e:Addr}{o':HO}
theorem HOk.write(ok:HOk P w H h)(mu:Mut (H x))(he:e=x∨H e=some (.own x))(k:∀ b u,b≠e→h.get? b=some u→h'.get? b=some u)(heo:∃ u,h'.get? e=some u)
  (new:ObjOk P w (upd H x o') h' x o'):HOk P w (upd H x o') h':=fun b u q=>by
 have nown:∀ c y,H c=some (.own y)→c≠x:=fun c y r z=>by subst z;rw [r] at mu;exact mu
 have ntup:∀ c xs,H c=some (.tup xs)→c≠x:=fun c xs r z=>by subst z;rw [r] at mu;exact mu
 by_cases hb:b=x
 ·subst hb;rw [upd_same] at q;cases q;exact new
 ·rw [upd_ne hb] at q
  by_cases hbe:b=e
  ·have q':H b=some (.own x):=by
    rcases he with z | z
    ·exact absurd (hbe.trans z) hb
    ·rw [hbe];exact z
   rw [q] at q';cases q'
   obtain ⟨v,hv⟩:=heo
   exact ⟨v,by rw [hbe];exact hv⟩
  ·refine (ok b u q).stay (fun c v hc r=>k c v ?_ r) (fun c r=>by rw [upd_ne (nown c b r)];exact r) fun c xs r=>by rw [upd_ne (ntup c xs r)];exact r
   rcases hc with rfl | hc
   ·exact hbe
   ·rintro rfl
    rcases he with z | z
    ·exact nown c b hc z
    ·rw [hc] at z;cases z;exact hb rfl
end
structure Un(fs ex:List Addr)(H H':Hp)(h h':Heap):Prop where
 keep:∀ b o,h.get? b=some o→H b=none→b∉fs→b∉ex→h'.get? b=some o
 slot:∀ b o,h.get? b=some o→H b=none→b∈fs→b∉ex→∃ sl,h'.get? b=some {o with slots:=sl}
 free:∀ b o,h.get? b=some o→H b=none→b∉ex→H' b=none
 there:∀ b o,h.get? b=some o→b∉ex→∃ o',h'.get? b=some o'
 tups:∀ b xs,H b=some (.tup xs)→H' b=some (.tup xs)
 frzs:∀ b o u,H b=some (.frz o u)→H' b=some (.frz o u)
 tbls:∀ b ps,H b=some (.tbl ps)→∃ more,H' b=some (.tbl (ps++more))
section
variable{fs fs' ex ex':List Addr}{H H1 H2:Hp}{h h1 h2 h':Heap}{a x e:Addr}{o:HO}
theorem Un.any(u:Un fs ex H H1 h h1){b:Addr}{ob:Obj}(q:h.get? b=some ob)(n:H b=none)(hx:b∉ex):∃ sl,h1.get? b=some {ob with slots:=sl}:=by
 by_cases hb:b∈fs
 ·exact u.slot b ob q n hb hx
 ·exact ⟨ob.slots,u.keep b ob q n hb hx⟩
theorem Un.kept(k:∀ b u,h.get? b=some u→h'.get? b=some u):Un fs ex H H h h' :=
 ⟨fun b ob q _ _ _=>k b ob q,fun b ob q _ _ _=>⟨ob.slots,k b ob q⟩,fun _ _ _ n _=>n,fun b ob q _=>⟨ob,k b ob q⟩,fun _ _ q=>q,fun _ _ _ q=>q,fun _ ps q=>⟨#[],by rw [q];simp⟩⟩
theorem Un.refl:Un fs ex H H h h:=Un.kept fun _ _ q=>q
theorem Un.laid(k:∀ b u,h.get? b=some u→h'.get? b=some u)(hp:h.objs.size≤a)(hn:H a=none):Un fs ex H (upd H a o) h h' where
 keep:=fun b u q _ _ _=>k b u q
 slot:=fun b u q _ _ _=>⟨u.slots,k b u q⟩
 free:=fun b u q n _=>by rw [upd_ne (Nat.ne_of_lt (Nat.lt_of_lt_of_le (Heap.lt_size q) hp))];exact n
 there:=fun b u q _=>⟨u,k b u q⟩
 tups:=fun b xs q=>by rw [upd_ne (ne_of_none q hn)];exact q
 frzs:=fun b u xs q=>by rw [upd_ne (ne_of_none q hn)];exact q
 tbls:=fun b ps q=>⟨#[],by rw [upd_ne (ne_of_none q hn),q];simp⟩
theorem Un.write(mu:Mut (H x))(he:e=x∨H e=some (.own x))(k:∀ b u,b≠e→h.get? b=some u→h'.get? b=some u)(heo:∃ u,h'.get? e=some u):Un fs ex H (upd H x o) h h':=by
 have hx:∀ b,H b=none→b≠x:=fun b n z=>by subst z;rw [n] at mu;exact mu
 have hb:∀ b,H b=none→b≠e:=fun b n z=>by
  subst z
  rcases he with r | r
  ·exact hx b n r
  ·rw [n] at r;cases r
 have hm:∀ b u,H b=some u→¬ Mut (some u)→b≠x:=fun b u q nm z=>by subst z;rw [q] at mu;exact nm mu
 refine ⟨fun b u q n _ _=>k b u (hb b n) q,fun b u q n _ _=>⟨u.slots,k b u (hb b n) q⟩,fun b u q n _=>by rw [upd_ne (hx b n)];exact n,fun b u q _=>?_,
  fun b xs q=>by rw [upd_ne (hm b _ q fun z=>z)];exact q,fun b u xs q=>by rw [upd_ne (hm b _ q fun z=>z)];exact q,fun b ps q=>⟨#[],by rw [upd_ne (hm b _ q fun z=>z),q];simp⟩⟩
 by_cases hbe:b=e
 ·subst hbe;exact heo
 ·exact ⟨u,k b u hbe q⟩
end
noncomputable def trk(h:Heap)(H:Hp):List Addr:=(List.range h.objs.size).filter fun a=>(H a).isSome
noncomputable def hidT(h:Heap)(H:Hp):Heap:=PySem.W.hideAll h (trk h H)
theorem hidT_size(h:Heap)(H:Hp):(hidT h H).objs.size=h.objs.size:=PySem.W.hideAll_size _ _
theorem hidT_get{h:Heap}{H:Hp}{b:Addr}{o:Obj}(e:h.get? b=some o)(n:H b=none):(hidT h H).get? b=some o :=
 PySem.W.hideAll_get _ e fun hm=>by
  have q:(H b).isSome=true:=(List.mem_filter.mp hm).2
  rw [n] at q;simp at q
theorem of_hidT{h:Heap}{H:Hp}{b:Addr}{o:Obj}(e:(hidT h H).get? b=some o):h.get? b=some o∧H b=none:=by
 have e':h.get? b=some o:=PySem.W.of_hideAll (trk h H) e
 refine ⟨e',?_⟩
 cases q:H b with
 | none=>rfl
 | some x =>
  have hm:b∈trk h H:=List.mem_filter.mpr ⟨List.mem_range.mpr (Heap.lt_size e'),by simp [q]⟩
  have z:(hidT h H).get? b=none:=PySem.W.hideAll_none (trk h H) hm
  rw [z] at e;cases e
noncomputable def allNews(g h:Heap)(L:Addr):List (Addr×Obj):=(List.range h.objs.size).filterMap fun a=>if a=L∨(g.get? a).isSome=true then none else (h.get? a).map fun o=>(a,o)
noncomputable def rest(g h:Heap)(L d:Addr):List (Addr×Obj):=(allNews g h L).filter fun p=>decide (p.1≠d)
end L2
namespace L2
open PySem PySem.Spec PyProof.Rows
structure Mod(K:PySem.W.Frag)(mg:Str→Option Value)(base:Heap):Prop where
 kin:K.In base
 glob:base.Ns mainGlobals mg
 blt:∃ mb,base.Ns builtinsNs mb∧∀ x:Str,x≠"__name__"→mb x=bootBuiltins x
 nolimit:base.NoLimit
structure Cx where
 prog:Program
 w:World
 K:PySem.W.Frag
 mg:Str→Option Value
 base:Heap
 A:Around
 N:List Str
 s₀:Shared
 H₀:Hp
 env:Env
 outer:List Env
 stack:List Env
 ex:List Addr
 fn:Str→Bool
 calm:Bool
 pn:List (Addr×Obj)
 xe:Value→Shared→Prop
noncomputable def frs(l:List Env):List Addr:=l.filterMap (·.frame)
noncomputable abbrev Cx.fs(X:Cx):List Addr:=frs X.outer
noncomputable def Vis(sc:Scope)(x:Str):Prop:=sc.names.lookup x=some .local∨sc.names.lookup x=some .cell∨sc.names.lookup x=some .free
noncomputable def Loc(sc:Scope)(x:Str):Prop:=sc.names.lookup x=some .local∨sc.names.lookup x=some .cell
noncomputable def Look(env:Env)(h:Heap)(m:Str→Option Value)(x:Str)(u:Value):Prop :=
 (env.kindOf x=some .local∧m x=some u)∨((env.kindOf x=some .cell∨env.kindOf x=some .free)∧∃ c,env.cells.lookup x=some c∧h.IsCell c (some u))
structure Cx.Ok(X:Cx):Prop where
 mod:Mod X.K X.mg X.base
 kind:X.env.scope.kind=.function
 glob:X.env.globals=mainGlobals
 blt:X.env.builtins=builtinsNs
 above:X.s₀.heap.objs.size≤X.env.locals
 inj:∀ x y c,X.env.cells.lookup x=some c→X.env.cells.lookup y=some c→x=y
 has:∀ x,(X.env.kindOf x=some .cell∨X.env.kindOf x=some .free)→∃ c,X.env.cells.lookup x=some c
 cab:∀ x c,X.fn x=true→X.env.cells.lookup x=some c→X.s₀.heap.objs.size≤c
 hd:X.calm=true→X.A.handled=none
 frames:X.A.frames=some X.stack
 stk:X.stack=X.outer∨(X.stack=X.env::X.outer∧X.env.frame=some X.env.locals)
 exf:∀ b∈X.ex,b≠X.env.locals∧∀ x c,X.env.cells.lookup x=some c→c≠b
 bs:∀ b o,X.base.get? b=some o→X.s₀.heap.get? b=some o∧X.H₀ b=none
 bsz:X.base.objs.size≤X.s₀.heap.objs.size
 noex:∀ b o,X.base.get? b=some o→b∉X.ex
 exfs:∀ b∈X.ex,b∉X.fs
 funs:X.s₀.heap.FunFrames X.base X.outer
 frf:∀ b∈X.fs,X.H₀ b=none
structure Inv(X:Cx)(pins:List (Addr×Obj))(σ:List (Option V))(H:Hp)(s:Shared):Prop where
 ok:X.Ok
 os:s.os=X.s₀.os
 bare:AllBare s.gens
 base:Un X.fs X.ex X.H₀ H X.s₀.heap s.heap
 loc:∃ m,s.heap.Ns X.env.locals m∧∀ (i:Nat) (x:Str) (v:V),X.N[i]?=some x→σ[i]?=some (some v)→Vis X.env.scope x→∃ u,RelV v u∧Look X.env s.heap m x u
 cell:∀ x c,X.env.cells.lookup x=some c→∃ v,s.heap.IsCell c v
 free:H X.env.locals=none
 freeC:∀ x c,X.env.cells.lookup x=some c→H c=none
 pin:∀ p∈X.pn++pins,s.heap.get? p.1=some p.2∧H p.1=none∧p.1≠X.env.locals∧p.1∉X.fs∧∀ v,p.2.data≠.cell v
 hok:HOk X.prog X.w H s.heap
 len:σ.length=X.N.length
section
variable{X:Cx}{pins:List (Addr×Obj)}{σ:List (Option V)}{H H':Hp}{s:Shared}{h':Heap}
theorem Cx.Ok.nofr(ok:X.Ok){b:Addr}{o:Obj}(e:X.base.get? b=some o):b∉X.fs:=fun hb=>by
 have:=(ok.funs.mem hb).1
 rw [e] at this;cases this
theorem Inv.bs(I:Inv X pins σ H s):∀ b o,X.base.get? b=some o→s.heap.get? b=some o∧H b=none:=fun b o e =>
 ⟨I.base.keep b o (I.ok.bs b o e).1 (I.ok.bs b o e).2 (I.ok.nofr e) (I.ok.noex b o e),I.base.free b o (I.ok.bs b o e).1 (I.ok.bs b o e).2 (I.ok.noex b o e)⟩
theorem Inv.bk(I:Inv X pins σ H s):∀ b o,X.base.get? b=some o→s.heap.get? b=some o:=fun b o e=>(I.bs b o e).1
theorem Inv.mod(I:Inv X pins σ H s):Mod X.K X.mg X.base:=I.ok.mod
theorem Inv.kIn(I:Inv X pins σ H s):X.K.In s.heap:=I.ok.mod.kin.keeps I.bk
theorem Inv.fr(I:Inv X pins σ H s):∃ m,Fr X.base X.env.locals s.heap m :=
 let ⟨m,hn,_⟩:=I.loc
 ⟨m,hn,I.bk,Nat.le_trans I.ok.bsz I.ok.above⟩
theorem Inv.lt(I:Inv X pins σ H s):X.env.locals<s.heap.objs.size:=let ⟨_,hn,_⟩:=I.loc;hn.lt
theorem Inv.sz(I:Inv X pins σ H s):X.s₀.heap.objs.size≤s.heap.objs.size:=Nat.le_trans I.ok.above (Nat.le_of_lt I.lt)
theorem Inv.nofs(I:Inv X pins σ H s){a:Addr}(h:s.heap.objs.size≤a):a∉X.fs:=fun hb=>by
 obtain ⟨_,o,ho,_⟩:=I.ok.funs.mem hb
 exact absurd (Nat.lt_of_lt_of_le (Heap.lt_size ho) (Nat.le_trans I.sz h)) (Nat.lt_irrefl _)
theorem Inv.cne(I:Inv X pins σ H s):∀ x c,X.env.cells.lookup x=some c→c≠X.env.locals:=fun x c e z=>by
 obtain ⟨v,o,ho,hd⟩:=I.cell x c e
 obtain ⟨m,⟨o',es,ep,ho',hd',_⟩,_⟩:=I.loc
 rw [z,ho'] at ho;cases ho;rw [hd'] at hd;cases hd
theorem Inv.funs(I:Inv X pins σ H s):s.heap.FunFrames X.base X.outer:=by
 have all:∀ (l:List Env),(∀ b∈frs l,b∈X.fs)→X.s₀.heap.FunFrames X.base l→s.heap.FunFrames X.base l:=by
  intro l
  induction l with
  | nil=>intro _ _;trivial
  | cons env r ih =>
   intro hs hl
   obtain ⟨hk,⟨L,o,hf,hn,ho,hd⟩,hr⟩:=hl
   have hL:L∈X.fs:=hs L (by unfold frs;rw [List.filterMap_cons,hf];exact List.mem_cons_self)
   obtain ⟨sl,e⟩:=I.base.slot L o ho (I.ok.frf L hL) hL fun z=>I.ok.exfs L z hL
   exact ⟨hk,⟨L,_,hf,hn,e,hd⟩,ih (fun b hb=>hs b (by unfold frs;rw [List.filterMap_cons,hf];exact List.mem_cons_of_mem _ hb)) hr⟩
 exact all X.outer (fun _ hb=>hb) I.ok.funs
theorem Inv.stack(I:Inv X pins σ H s):s.heap.FunFrames X.base X.stack:=by
 rcases I.ok.stk with e | ⟨e,hf⟩
 ·rw [e];exact I.funs
 ·rw [e]
  obtain ⟨m,hn,_⟩:=I.loc
  refine .cons (by rw [I.ok.kind];decide) hf hn ?_ I.funs
  exact Heap.get?_none_of_le (Nat.le_trans I.ok.bsz I.ok.above)
theorem Inv.stkSub(I:Inv X pins σ H s):∀ b∈frs X.stack,b∈X.env.locals::X.fs:=fun b hb=>by
 rcases I.ok.stk with e | ⟨e,hf⟩
 ·rw [e] at hb;exact List.mem_cons_of_mem _ hb
 ·rw [e] at hb
  unfold frs at hb
  rw [List.filterMap_cons,hf] at hb
  exact hb
theorem Inv.stkFree(I:Inv X pins σ H s):∀ b∈frs X.stack,H b=none:=fun b hb=>by
 rcases List.mem_cons.mp (I.stkSub b hb) with e | hb
 ·rw [e];exact I.free
 ·obtain ⟨_,o,ho,_⟩:=I.ok.funs.mem hb
  exact I.base.free b o ho (I.ok.frf b hb) fun z=>I.ok.exfs b z hb
theorem Inv.step{g':Array GenState}{t':Nat}{d':Drawn}{ch:List Addr}(I:Inv X pins σ H s)
  (hch:∀ b∈ch,(b∈X.ex∨X.s₀.heap.objs.size≤b)∧b≠X.env.locals∧(∀ x c,X.env.cells.lookup x=some c→c≠b)∧∀ p∈X.pn++pins,p.1≠b)
  (keep:∀ b o,b≠X.env.locals→b∉X.fs→b∉ch→s.heap.get? b=some o→H b=none→h'.get? b=some o)
  (slot:∀ b o,b≠X.env.locals→b∈X.fs→b∉ch→s.heap.get? b=some o→H b=none→∃ sl,h'.get? b=some {o with slots:=sl}) (free:∀ b o,b∉ch→s.heap.get? b=some o→H b=none→H' b=none)
  (there:∀ b o,b∉ch→s.heap.get? b=some o→∃ o',h'.get? b=some o')
  (tups:∀ b xs,H b=some (.tup xs)→H' b=some (.tup xs)) (frzs:∀ b o u,H b=some (.frz o u)→H' b=some (.frz o u)) (tbls:∀ b ps,H b=some (.tbl ps)→∃ more,H' b=some (.tbl (ps++more)))
  (ns:∀ m,s.heap.Ns X.env.locals m→h'.Ns X.env.locals m) (hok:HOk X.prog X.w H' h') (hg:AllBare g') :
  Inv X pins σ H' {s with heap:=h',gens:=g',drawn:=d',toks:=t'}:=by
 have neL:∀ b o,X.s₀.heap.get? b=some o→b≠X.env.locals:=fun b o e=>Nat.ne_of_lt (Nat.lt_of_lt_of_le (Heap.lt_size e) I.ok.above)
 have neC:∀ b o,X.s₀.heap.get? b=some o→b∉X.ex→b∉ch:=fun b o e hx hb=>by
  rcases (hch b hb).1 with z | z
  ·exact hx z
  ·exact absurd (Nat.lt_of_lt_of_le (Heap.lt_size e) z) (Nat.lt_irrefl _)
 have cellK:∀ x c,X.env.cells.lookup x=some c→∀ v,s.heap.IsCell c v→h'.IsCell c v:=fun x c e v ⟨o,ho,hd⟩=>by
  have nch:c∉ch:=fun z=>(hch c z).2.2.1 x c e rfl
  by_cases hc:c∈X.fs
  ·obtain ⟨sl,q⟩:=slot c o (I.cne x c e) hc nch ho (I.freeC x c e)
   exact ⟨_,q,hd⟩
  ·exact ⟨o,keep c o (I.cne x c e) hc nch ho (I.freeC x c e),hd⟩
 refine ⟨I.ok,I.os,hg,⟨fun b o e n hb hx=>?_,fun b o e n hb hx=>?_,fun b o e n hx=>?_,fun b o e hx=>?_,fun b xs e=>tups b xs (I.base.tups b xs e),fun b o xs e=>frzs b o xs (I.base.frzs b o xs e),fun b ps e=>?_⟩,?_,fun x c e=>?_,?_,fun x c e=>?_,fun p hp=>?_,hok,I.len⟩
 ·exact keep b o (neL b o e) hb (neC b o e hx) (I.base.keep b o e n hb hx) (I.base.free b o e n hx)
 ·obtain ⟨sl,e1⟩:=I.base.slot b o e n hb hx
  obtain ⟨sl',e2⟩:=slot b _ (neL b o e) hb (neC b o e hx) e1 (I.base.free b o e n hx)
  exact ⟨sl',e2⟩
 ·obtain ⟨o',e1⟩:=I.base.there b o e hx
  exact free b o' (neC b o e hx) e1 (I.base.free b o e n hx)
 ·obtain ⟨o',e1⟩:=I.base.there b o e hx
  exact there b o' (neC b o e hx) e1
 ·obtain ⟨m1,e1⟩:=I.base.tbls b ps e
  obtain ⟨m2,e2⟩:=tbls b _ e1
  exact ⟨m1++m2,by rw [e2,Array.append_assoc]⟩
 ·obtain ⟨m,hn,hl⟩:=I.loc
  refine ⟨m,ns m hn,fun i x v e1 e2 e3=>?_⟩
  obtain ⟨u,r,l⟩:=hl i x v e1 e2 e3
  refine ⟨u,r,?_⟩
  rcases l with l | ⟨k,c,e,z⟩
  ·exact .inl l
  ·exact .inr ⟨k,c,e,cellK x c e _ z⟩
 ·obtain ⟨v,z⟩:=I.cell x c e
  exact ⟨v,cellK x c e v z⟩
 ·obtain ⟨m,⟨o,_,_,ho,_⟩,_⟩:=I.loc
  exact free _ o (fun z=>(hch _ z).2.1 rfl) ho I.free
 ·obtain ⟨v,o,ho,hd⟩:=I.cell x c e
  exact free c o (fun z=>(hch c z).2.2.1 x c e rfl) ho (I.freeC x c e)
 ·obtain ⟨e,n,ne,nf,d⟩:=I.pin p hp
  have nch:p.1∉ch:=fun z=>(hch p.1 z).2.2.2 p hp rfl
  exact ⟨keep p.1 p.2 ne nf nch e n,free p.1 p.2 nch e n,ne,nf,d⟩
theorem Inv.un{t':Nat}(I:Inv X pins σ H s)(u:Un X.fs [] H H' s.heap h')(hok:HOk X.prog X.w H' h'):Inv X pins σ H' {s with heap:=h',toks:=t'}:=by
 obtain ⟨m,⟨o,es,ep,ho,r⟩,_⟩:=id I.loc
 obtain ⟨sl,hL⟩:=u.any ho I.free (by simp)
 exact I.step (g':=s.gens) (d':=s.drawn) (ch:=[]) (fun _ z=>nomatch z) (fun b o _ hb _ e n=>u.keep b o e n hb (by simp)) (fun b o _ hb _ e n=>u.slot b o e n hb (by simp)) (fun b o _ e n=>u.free b o e n (by simp)) (fun b o _ e=>u.there b o e (by simp)) u.tups u.frzs u.tbls (fun m' hm=>by
  obtain ⟨o',es',ep',ho',r'⟩:=hm
  rw [ho] at ho';cases ho'
  exact ⟨_,es',ep',hL,r'⟩) hok I.bare
theorem Inv.call{g':Array GenState}{t':Nat}{d':Drawn}{ch:List Addr}(I:Inv X pins σ H s)(u:Un (frs X.stack) ch H H' s.heap h')(hok:HOk X.prog X.w H' h')(hg:AllBare g')
  (hch:∀ b∈ch,(b∈X.ex∨X.s₀.heap.objs.size≤b)∧b≠X.env.locals∧(∀ x c,X.env.cells.lookup x=some c→c≠b)∧∀ p∈X.pn++pins,p.1≠b) :
  Inv X pins σ H' {s with heap:=h',gens:=g',drawn:=d',toks:=t'}:=by
 obtain ⟨m,⟨o,es,ep,ho,r⟩,_⟩:=id I.loc
 obtain ⟨sl,hL⟩:=u.any ho I.free fun z=>(hch _ z).2.1 rfl
 exact I.step (ch:=ch) hch (fun b o hL hb hc e n=>u.keep b o e n (fun z=>(List.mem_cons.mp (I.stkSub b z)).elim hL hb) hc) (fun b o _ _ hc e n=>u.any e n hc) (fun b o hc e n=>u.free b o e n hc) (fun b o hc e=>u.there b o e hc) u.tups u.frzs u.tbls (fun m' hm=>by
  obtain ⟨o',es',ep',ho',r'⟩:=hm
  rw [ho] at ho';cases ho'
  exact ⟨_,es',ep',hL,r'⟩) hok hg
theorem Inv.turned{t':Nat}{it:Addr}(I:Inv X pins σ H s)(k:∀ b o,b≠it→s.heap.get? b=some o→h'.get? b=some o)(hn:H it=none)(hL:it≠X.env.locals)
  (h1:it∈X.ex∨X.s₀.heap.objs.size≤it) (h2:∀ x c,X.env.cells.lookup x=some c→c≠it) (h3:∀ p∈X.pn++pins,p.1≠it):Inv X pins σ H {s with heap:=h',toks:=t'}:=by
 have nit:∀ b u,H b=some u→b≠it:=fun b u e z=>by rw [z,hn] at e;cases e
 refine I.step (g':=s.gens) (d':=s.drawn) (ch:=[it]) (fun b hb=>?_) (fun b o _ _ hc e _=>k b o (fun z=>hc (by simp [z])) e) (fun b o _ _ hc e _=>⟨o.slots,k b o (fun z=>hc (by simp [z])) e⟩) (fun _ _ _ _ n=>n)
  (fun b o hc e=>⟨o,k b o (fun z=>hc (by simp [z])) e⟩) (fun _ _ e=>e) (fun _ _ _ e=>e) (fun b ps e=>⟨#[],by rw [e];simp⟩) (fun m hm=>?_) (fun b u e=>?_) I.bare
 ·have e:b=it:=by simpa using hb
  subst e
  exact ⟨h1,hL,h2,h3⟩
 ·obtain ⟨o,es,ep,ho,r⟩:=hm
  exact ⟨o,es,ep,k _ o (Ne.symm hL) ho,r⟩
 ·refine (I.hok b u e).stay (fun c v hc q=>k c v ?_ q) (fun _ q=>q) fun _ _ q=>q
  rcases hc with z | z
  ·rw [z];exact nit b u e
  ·exact nit c _ z
theorem Inv.tok(I:Inv X pins σ H s)(t:Nat):Inv X pins σ H {s with toks:=t}:=I.un (h':=s.heap) (t':=t) Un.refl I.hok
theorem Inv.kept{t':Nat}(I:Inv X pins σ H s)(k:∀ b u,s.heap.get? b=some u→h'.get? b=some u):Inv X pins σ H {s with heap:=h',toks:=t'}:=I.un (Un.kept k) (I.hok.kept k)
theorem Inv.laid{a:Addr}{o:HO}{t':Nat}(I:Inv X pins σ H s)(k:∀ b u,s.heap.get? b=some u→h'.get? b=some u)(hp:s.heap.objs.size≤a)(new:ObjOk X.prog X.w (upd H a o) h' a o) :
  Inv X pins σ (upd H a o) {s with heap:=h',toks:=t'}:=I.un (Un.laid k hp (I.hok.fresh hp)) (I.hok.laid k hp new)
theorem Inv.write{x e:Addr}{o:HO}{t':Nat}(I:Inv X pins σ H s)(mu:Mut (H x))(he:e=x∨H e=some (.own x))(k:∀ b u,b≠e→s.heap.get? b=some u→h'.get? b=some u)(heo:∃ u,h'.get? e=some u)
  (new:ObjOk X.prog X.w (upd H x o) h' x o):Inv X pins σ (upd H x o) {s with heap:=h',toks:=t'}:=I.un (Un.write mu he k heo) (I.hok.write mu he k heo new)
theorem Inv.weak{σ':List (Option V)}(I:Inv X pins σ H s)(hl:σ'.length=σ.length)(w:∀ (i:Nat) v,σ'[i]?=some (some v)→σ[i]?=some (some v)):Inv X pins σ' H s :=
 ⟨I.ok,I.os,I.bare,I.base,let ⟨m,hn,hl'⟩:=I.loc;⟨m,hn,fun i x v e1 e2 e3=>hl' i x v e1 (w i v e2) e3⟩,I.cell,I.free,I.freeC,I.pin,I.hok,hl.trans I.len⟩
theorem Inv.pins_of{pins':List (Addr×Obj)}(I:Inv X pins σ H s)(h:∀ p∈pins',s.heap.get? p.1=some p.2∧H p.1=none∧p.1≠X.env.locals∧p.1∉X.fs∧∀ v,p.2.data≠.cell v):Inv X pins' σ H s :=
 ⟨I.ok,I.os,I.bare,I.base,I.loc,I.cell,I.free,I.freeC,fun p hp=>(List.mem_append.mp hp).elim (fun z=>I.pin p (List.mem_append_left _ z)) (h p),I.hok,I.len⟩
theorem nodup_ix{N:List Str}(hN:N.Nodup){i j:Nat}{x:Str}(a:N[i]?=some x)(b:N[j]?=some x):i=j:=by
 obtain ⟨h1,e1⟩:=List.getElem?_eq_some_iff.mp a
 obtain ⟨h2,e2⟩:=List.getElem?_eq_some_iff.mp b
 exact (List.getElem_inj hN).mp (e1.trans e2.symm)
theorem store_ok2{M:Model}{A:Around}{E:Value→Shared→Prop}{i:Nat}{x:Str}{v:V}{u:Value}{Q:Unit→Shared→Prop}(I:Inv X pins σ H s)(hN:X.N.Nodup)(hi:X.N[i]?=some x)(hx:Loc X.env.scope x)(r:RelV v u)
  (h:∀ s',Inv X pins (σ.set i (some v)) H s'→(∃ a,Heap.SameBut a s.heap s'.heap∧(a=X.env.locals∨X.env.cells.lookup x=some a))→Q () s') (hf:X.fn x=true∨X.env.scope.names.lookup x=some .local:=by first | exact .inl rfl | exact .inr rfl | assumption):wpAny M A (storeName X.env x u) Q E s:=by
 obtain ⟨m,hn,hl⟩:=id I.loc
 have hcls:(X.env.scope.kind==.class || (X.env.scope.kind==.module&&X.env.locals != X.env.globals))=false:=by rw [I.ok.kind];rfl
 have hiσ:i<σ.length:=by rw [I.len];exact (List.getElem?_eq_some_iff.mp hi).1
 have cne:=I.cne
 have tracked:∀ {a:Addr} {h':Heap},(∃ o,s.heap.get? a=some o∧H a=none)→Heap.SameBut a s.heap h'→HOk X.prog X.w H h':=fun {a h'} ha hs b ob e=>by
  obtain ⟨_,_,hfree⟩:=ha
  refine (I.hok b ob e).stay (fun c w' hc q=>(hs.2 c ?_).trans q) (fun _ q=>q) fun _ _ q=>q
  rintro rfl
  rcases hc with rfl | hc
  ·rw [hfree] at e;cases e
  ·rw [hfree] at hc;cases hc
 rcases hx with hk | hk
 ·refine wpAny_storeName_local hk hn (fun h' hn' hs=>?_) hcls
  obtain ⟨oL,_,_,hoL,_⟩:=id hn
  refine h _ ⟨I.ok,I.os,I.bare,⟨fun b o e n hb hx=>?_,fun b o e n hb hx=>?_,I.base.free,fun b o e hx=>?_,I.base.tups,I.base.frzs,I.base.tbls⟩,⟨_,hn',fun j y v' e1 e2 e3=>?_⟩,fun y c e=>?_,I.free,I.freeC,fun p hp=>?_,tracked ⟨oL,hoL,I.free⟩ hs,by simpa using I.len⟩ ⟨_,hs,.inl rfl⟩
  ·exact (hs.2 b (Nat.ne_of_lt (Nat.lt_of_lt_of_le (Heap.lt_size e) I.ok.above))).trans (I.base.keep b o e n hb hx)
  ·obtain ⟨sl,e1⟩:=I.base.slot b o e n hb hx
   exact ⟨sl,(hs.2 b (Nat.ne_of_lt (Nat.lt_of_lt_of_le (Heap.lt_size e) I.ok.above))).trans e1⟩
  ·obtain ⟨o',e1⟩:=I.base.there b o e hx
   exact ⟨o',(hs.2 b (Nat.ne_of_lt (Nat.lt_of_lt_of_le (Heap.lt_size e) I.ok.above))).trans e1⟩
  ·by_cases hj:j=i
   ·subst hj
    rw [hi] at e1;cases e1
    rw [List.getElem?_set_self hiσ] at e2
    cases e2
    exact ⟨u,r,.inl ⟨hk,by simp⟩⟩
   ·rw [List.getElem?_set_ne (Ne.symm hj)] at e2
    obtain ⟨u',r',q⟩:=hl j y v' e1 e2 e3
    refine ⟨u',r',?_⟩
    rcases q with ⟨k,e⟩ | ⟨k,c,e,z⟩
    ·refine .inl ⟨k,?_⟩
     have:y≠x:=fun e=>hj (nodup_ix hN e1 (e▸hi))
     simp [this,e]
    ·exact .inr ⟨k,c,e,z.sameBut hs (cne y c e)⟩
  ·obtain ⟨w',z⟩:=I.cell y c e
   exact ⟨w',z.sameBut hs (cne y c e)⟩
  ·obtain ⟨e,n,ne,nf,d⟩:=I.pin p hp
   exact ⟨(hs.2 p.1 ne).trans e,n,ne,nf,d⟩
 ·have hfn:X.fn x=true:=by
   rcases hf with z | z
   ·exact z
   ·rw [z] at hk;cases hk
  obtain ⟨c,hc⟩:=I.ok.has x (.inl hk)
  obtain ⟨w',z⟩:=I.cell x c hc
  refine wpAny_storeName_cell I.ok.kind hk hc z (fun h' hc' hs=>?_)
  obtain ⟨oc,hoc,hocd⟩:=id z
  refine h {s with heap:=h'} ⟨I.ok,I.os,I.bare,⟨fun b o e n hb hx=>?_,fun b o e n hb hx=>?_,I.base.free,fun b o e hx=>?_,I.base.tups,I.base.frzs,I.base.tbls⟩,⟨m,hn.sameBut hs (Ne.symm (cne x c hc)),fun j y v' e1 e2 e3=>?_⟩,fun y c' e=>?_,I.free,I.freeC,fun p hp=>?_,tracked ⟨oc,hoc,I.freeC x c hc⟩ hs,by simpa using I.len⟩ ⟨c,hs,.inr hc⟩
  ·exact (hs.2 b (Nat.ne_of_lt (Nat.lt_of_lt_of_le (Heap.lt_size e) (I.ok.cab x c hfn hc)))).trans (I.base.keep b o e n hb hx)
  ·obtain ⟨sl,e1⟩:=I.base.slot b o e n hb hx
   exact ⟨sl,(hs.2 b (Nat.ne_of_lt (Nat.lt_of_lt_of_le (Heap.lt_size e) (I.ok.cab x c hfn hc)))).trans e1⟩
  ·obtain ⟨o',e1⟩:=I.base.there b o e hx
   exact ⟨o',(hs.2 b (Nat.ne_of_lt (Nat.lt_of_lt_of_le (Heap.lt_size e) (I.ok.cab x c hfn hc)))).trans e1⟩
  ·by_cases hj:j=i
   ·subst hj
    rw [hi] at e1;cases e1
    rw [List.getElem?_set_self hiσ] at e2
    cases e2
    exact ⟨u,r,.inr ⟨.inl hk,c,hc,hc'⟩⟩
   ·rw [List.getElem?_set_ne (Ne.symm hj)] at e2
    obtain ⟨u',r',q⟩:=hl j y v' e1 e2 e3
    refine ⟨u',r',?_⟩
    rcases q with q | ⟨k,c',e,z'⟩
    ·exact .inl q
    ·refine .inr ⟨k,c',e,z'.sameBut hs ?_⟩
     rintro rfl
     exact hj (nodup_ix hN e1 (I.ok.inj _ _ _ e hc▸hi))
  ·by_cases hcc:c'=c
   ·subst hcc;exact ⟨_,hc'⟩
   ·obtain ⟨w2,z2⟩:=I.cell y c' e
    exact ⟨w2,z2.sameBut hs hcc⟩
  ·obtain ⟨e,n,ne,nf,d⟩:=I.pin p hp
   refine ⟨(hs.2 p.1 ?_).trans e,n,ne,nf,d⟩
   intro q
   rw [q,hoc] at e
   have q':oc=p.2:=Option.some.inj e
   exact d w' (by rw [← q'];exact hocd)
theorem store_ok{M:Model}{A:Around}{E:Value→Shared→Prop}{i:Nat}{x:Str}{v:V}{u:Value}{Q:Unit→Shared→Prop}(I:Inv X pins σ H s)(hN:X.N.Nodup)(hi:X.N[i]?=some x)(hx:Loc X.env.scope x)(r:RelV v u)
  (h:∀ s',Inv X pins (σ.set i (some v)) H s'→Q () s') (hf:X.fn x=true∨X.env.scope.names.lookup x=some .local:=by first | exact .inl rfl | exact .inr rfl | assumption):wpAny M A (storeName X.env x u) Q E s :=
 store_ok2 I hN hi hx r (fun s' I' _=>h s' I') hf
end
noncomputable abbrev XK:=Value→Option Addr→Hp→Prop
noncomputable abbrev St:=List (Option V)
noncomputable abbrev VK:=V→Hp→Prop
noncomputable abbrev TE:=St→Hp→VK→Prop
noncomputable abbrev TT:=St→Hp→(Bool→Hp→Prop)→Prop
noncomputable abbrev TA:=St→Hp→(List V→Hp→Prop)→Prop
structure Ends where
 nx:St→Hp→Prop
 rt:VK
 bk:St→Hp→Prop:=fun _ _=>False
 ct:St→Hp→Prop:=fun _ _=>False
noncomputable abbrev TS:=Ends→St→Hp→Prop
noncomputable def EP(X:Cx)(pins:List (Addr×Obj))(σ:St)(Q:VK)(u:Value)(s':Shared):Prop:=∃ v H',Inv X pins σ H' s'∧RelV v u∧Q v H'
noncomputable def TP(X:Cx)(pins:List (Addr×Obj))(σ:St)(Q:Bool→Hp→Prop)(b:Bool)(s':Shared):Prop:=∃ H',Inv X pins σ H' s'∧Q b H'
noncomputable def AP(X:Cx)(pins:List (Addr×Obj))(σ:St)(Q:List V→Hp→Prop)(us:List Value)(s':Shared):Prop:=∃ vs H',Inv X pins σ H' s'∧Vals vs us∧Q vs H'
noncomputable def SP(X:Cx)(pins:List (Addr×Obj))(D:Ends)(f:Flow)(s':Shared):Prop :=
 match f with
 | .next=>∃ σ' H',Inv X pins σ' H' s'∧D.nx σ' H'
 | .brk=>∃ σ' H',Inv X pins σ' H' s'∧D.bk σ' H'
 | .cont=>∃ σ' H',Inv X pins σ' H' s'∧D.ct σ' H'
 | .ret u=>∃ v σ' H',Inv X pins σ' H' s'∧RelV v u∧D.rt v H'
noncomputable def PE(X:Cx)(e:Expr)(t:TE):Prop :=
 ∀ (pins:List (Addr×Obj)) (s:Shared) (σ:St) (H:Hp) (Q:VK),Inv X pins σ H s→t σ H Q→wpAny (model X.prog X.w) X.A (eval e X.env) (EP X pins σ Q) X.xe s
noncomputable def PT(X:Cx)(e:Expr)(t:TT):Prop :=
 ∀ (pins:List (Addr×Obj)) (s:Shared) (σ:St) (H:Hp) (Q:Bool→Hp→Prop),Inv X pins σ H s→t σ H Q→wpAny (model X.prog X.w) X.A (isTrue e X.env (eval e X.env)) (TP X pins σ Q) X.xe s
noncomputable def PW(X:Cx)(e:Expr)(t:TT):Prop :=
 ∀ (whole:Sem Value) (pins:List (Addr×Obj)) (s:Shared) (σ:St) (H:Hp) (Q:Bool→Hp→Prop),Inv X pins σ H s→t σ H Q→wpAny (model X.prog X.w) X.A (isTrue e X.env whole) (TP X pins σ Q) X.xe s
theorem PW.pt{X:Cx}{e:Expr}{t:TT}(h:PW X e t):PT X e t:=h _
noncomputable def PA(X:Cx)(es:List Expr)(t:TA):Prop :=
 ∀ (pos:Pos) (pins:List (Addr×Obj)) (s:Shared) (σ:St) (H:Hp) (Q:List V→Hp→Prop),Inv X pins σ H s→t σ H Q→wpAny (model X.prog X.w) X.A (spliced (backTo pos (starEach es X.env))) (AP X pins σ Q) X.xe s
noncomputable def PS(X:Cx)(st:Stmt)(t:TS):Prop :=
 ∀ (pins:List (Addr×Obj)) (s:Shared) (σ:St) (H:Hp) (D:Ends),Inv X pins σ H s→t D σ H→wpAny (model X.prog X.w) X.A (exec st X.env) (SP X pins D) X.xe s
noncomputable def PSs(X:Cx)(st:List Stmt)(t:TS):Prop :=
 ∀ (pins:List (Addr×Obj)) (s:Shared) (σ:St) (H:Hp) (D:Ends),Inv X pins σ H s→t D σ H→wpAny (model X.prog X.w) X.A (execs st X.env) (SP X pins D) X.xe s
theorem thn{α:Type}{t:Sem α}{Q Q':α→Shared→Prop}{M:Model}{A:Around}{E:Value→Shared→Prop}{s:Shared}(h:wpAny M A t Q E s)(hQ:∀ a s,Q a s→Q' a s):wpAny M A t Q' E s:=wpAny_mono h hQ fun _ _ x=>x
end L2
namespace L2
open PySem PySem.Spec PyProof.Rows
section
variable{X:Cx}
theorem bin{a b:Expr}{ta tb:TE}(ha:PE X a ta)(hb:PE X b tb){pins:List (Addr×Obj)}{s:Shared}{σ:St}{H:Hp}{R:V→V→Hp→Prop}(I:Inv X pins σ H s)(h:ta σ H fun x H1=>tb σ H1 fun y H2=>R x y H2)
  {α:Type} {Q:α→Shared→Prop} {f:Value→Value→Sem α}
  (hf:∀ v u s2 x y H2,Inv X pins σ H2 s2→RelV x v→RelV y u→R x y H2→wpAny (model X.prog X.w) X.A (f v u) Q X.xe s2) :
  wpAny (model X.prog X.w) X.A (eval a X.env) (fun v s₁=>wpAny (model X.prog X.w) X.A (eval b X.env) (fun u s₂=>wpAny (model X.prog X.w) X.A (f v u) Q X.xe s₂) X.xe s₁) X.xe s:=by
 refine thn (ha pins s σ H _ I h) fun v s1 ⟨x,H1,I1,r1,q1⟩=>?_
 refine thn (hb pins s1 σ H1 _ I1 q1) fun u s2 ⟨y,H2,I2,r2,q2⟩=>?_
 exact hf v u s2 x y H2 I2 r1 r2 q2
noncomputable def tVar(i:Nat):TE:=fun σ H Q=>∃ v,σ[i]?=some (some v)∧Q v H
noncomputable def tC(v:V):TE:=fun _ H Q=>Q v H
theorem pe_var{i:Nat}{x:Str}{pos:Pos}(hN:X.N[i]?=some x)(hv:Vis X.env.scope x)(hd:(x==("__debug__":Str))=false:=by decide)(hcd:(x==("__classdict__":Str))=false:=by decide):PE X (.Name x pos) (tVar i):=by
 intro pins s σ H Q I h
 obtain ⟨v,e,h⟩:=h
 obtain ⟨m,hn,hl⟩:=I.loc
 obtain ⟨u,r,l⟩:=hl i x v hN e hv
 have fin:EP X pins σ Q u s:=⟨v,H,I,r,h⟩
 rcases l with ⟨hk,hm⟩ | ⟨hk,c,hc,hcell⟩
 ·exact wpAny_Name (wpAny_loadName_local I.ok.kind hk hn hm fin) hd
 ·rcases hk with hk | hk
  ·exact wpAny_Name (wpAny_loadName_cell I.ok.kind hk hc hcell fin) hd
  ·exact wpAny_Name (wpAny_loadName_free I.ok.kind hk hc hcell fin hcd) hd
theorem pe_int{i j pos}:PE X (.Constant (.int i) j pos) (tC (.int i)):=fun _ _ _ H _ I h=>wpAny_Constant_int ⟨.int i,H,I.tok _,⟨_,rfl⟩,h⟩
theorem pe_bl{b j pos}:PE X (.Constant (.bool b) j pos) (tC (.bl b)):=fun _ _ _ H _ I h=>Constant_bool ⟨.bl b,H,I,rfl,h⟩
theorem pe_non{j pos}:PE X (.Constant .none j pos) (tC .non):=fun _ _ _ H _ I h=>Constant_none ⟨.non,H,I,rfl,h⟩
noncomputable def Gl(X:Cx)(x:Str):Prop:=X.env.kindOf x=some .globalImplicit
theorem ld_glob{E:Value→Shared→Prop}{pins:List (Addr×Obj)}{s:Shared}{σ:St}{H:Hp}{x:Str}{u:Value}{pos:Pos}{Q:Value→Shared→Prop}(I:Inv X pins σ H s)(hg:Gl X x)(hm:X.mg x=some u)(h:Q u s)
  (hd:(x==("__debug__":Str))=false:=by decide):wpAny (model X.prog X.w) X.A (eval (.Name x pos) X.env) Q E s :=
 Calls.Name_function_global I.ok.kind hg (Calls.loadGlobal_global (by rw [I.ok.glob];exact I.mod.glob.keeps I.bk) hm h) hd
theorem ld_blt{E:Value→Shared→Prop}{pins:List (Addr×Obj)}{s:Shared}{σ:St}{H:Hp}{x:Str}{u:Value}{pos:Pos}{Q:Value→Shared→Prop}(I:Inv X pins σ H s)(hg:Gl X x)(hm:X.mg x=none)(hv:bootBuiltins x=some u)(h:Q u s)
  (hn:x≠"__name__":=by decide) (hd:(x==("__debug__":Str))=false:=by decide):wpAny (model X.prog X.w) X.A (eval (.Name x pos) X.env) Q E s:=by
 obtain ⟨mb,h1,h2⟩:=I.mod.blt
 exact Calls.Name_function_global I.ok.kind hg (Calls.loadGlobal_builtin (by rw [I.ok.glob];exact I.mod.glob.keeps I.bk) hm (by rw [I.ok.blt];exact h1.keeps I.bk) ((h2 x hn).trans hv) h) hd
theorem pe_bltn{x:Str}{v:V}{u:Value}{pos:Pos}(hg:Gl X x)(hm:X.mg x=none)(hv:bootBuiltins x=some u)(r:RelV v u)(hn:x≠"__name__":=by decide)(hd:(x==("__debug__":Str))=false:=by decide):PE X (.Name x pos) (tC v) :=
 fun _ _ _ H _ I h=>ld_blt I hg hm hv ⟨v,H,I,r,h⟩ hn hd
noncomputable def t2I(ta tb:TE)(k:Int→Int→Hp→Prop):St→Hp→Prop:=fun σ H=>ta σ H fun x H1=>tb σ H1 fun y H2=>∃ i j,x=.int i∧y=.int j∧k i j H2
variable{a b:Expr}{ta tb:TE}{pos:Pos}
noncomputable def PC(X:Cx)(op:CmpOp)(a b:Expr)(t:TE):Prop :=
 ∀ (pins:List (Addr×Obj)) (s:Shared) (σ:St) (H:Hp) (Q:VK),Inv X pins σ H s→t σ H Q→
  wpAny (model X.prog X.w) X.A (eval a X.env) (fun v s₁=>wpAny (model X.prog X.w) X.A (eval b X.env) (fun u s₂=>wpAny (model X.prog X.w) X.A (compareOp op v u) (EP X pins σ Q) X.xe s₂) X.xe s₁) X.xe s
noncomputable def tCmp(p:Int→Int→Bool)(ta tb:TE):TE:=fun σ H Q=>t2I ta tb (fun i j H2=>Q (.bl (p i j)) H2) σ H
noncomputable abbrev tLt:TE→TE→TE:=tCmp fun i j=>decide (i<j)
noncomputable abbrev tLe:TE→TE→TE:=tCmp fun i j=>decide (i≤j)
noncomputable abbrev tGt:TE→TE→TE:=tCmp fun i j=>decide (j<i)
noncomputable abbrev tGe:TE→TE→TE:=tCmp fun i j=>decide (j≤i)
noncomputable abbrev tEqI:TE→TE→TE:=tCmp fun i j=>decide (i=j)
noncomputable abbrev tNeI:TE→TE→TE:=tCmp fun i j=>!decide (i=j)
noncomputable def tB(t:TE):TT:=fun σ H Q=>t σ H fun x H1=>∃ c,x=.bl c∧Q c H1
theorem pt_cmp{op:CmpOp}{t:TE}(h:PC X op a b t)(h1:behindInMarks op b=false:=by first | exact nobehind _ (by decide) (by decide) | rfl):PT X (.Compare a [op] [b] pos) (tB t):=by
 intro pins s σ H Q I hw
 refine wpAny_isTrue_Compare1 (thn (h pins s σ H _ I hw) fun v s1 h1=>thn h1 fun u s2 h2=>thn h2 fun c s3 ⟨x,H1,I1,r1,q1⟩=>?_) h1
 obtain ⟨d,rfl,q⟩:=q1
 cases r1
 exact wpAny_truthy_bool ⟨H1,I1,q⟩
theorem pt_val{e:Expr}{t:TE}(h:PE X e t)(he:∀ whole,isTrue e X.env whole=(do let v ← whole;standAt e.pos;holding [v] (truthy v)):=by intro _;rfl):PT X e (tB t):=by
 intro pins s σ H Q I hw
 refine isTrue_plain (thn (h pins s σ H _ I hw) fun v s1 ⟨x,H1,I1,r1,q1⟩=>?_) (he _)
 obtain ⟨d,rfl,q⟩:=q1
 cases r1
 exact wpAny_truthy_bool ⟨H1,I1,q⟩
variable{tA tB':TT}{rest:List Expr}
noncomputable def tAnd(t u:TT):TT:=fun σ H Q=>t σ H fun c H1=>if c=true then u σ H1 Q else Q false H1
noncomputable def tOr(t u:TT):TT:=fun σ H Q=>t σ H fun c H1=>if c=true then Q true H1 else u σ H1 Q
noncomputable def tNot(t:TT):TT:=fun σ H Q=>t σ H fun c H1=>Q (!c) H1
theorem pw_and1(ha:PT X a tA):PW X (.BoolOp .And [a] pos) tA:=by
 intro wh pins s σ H Q I h
 refine isTrue_and (thn (ha pins s σ H Q I h) fun c s1 e=>?_)
 cases c with
 | true=>exact isTrue_and_nil e
 | false=>exact e
theorem pw_or1(ha:PT X a tA):PW X (.BoolOp .Or [a] pos) tA:=by
 intro wh pins s σ H Q I h
 refine isTrue_or (thn (ha pins s σ H Q I h) fun c s1 e=>?_)
 cases c with
 | false=>exact isTrue_or_nil e
 | true=>exact e
theorem pw_and(ha:PT X a tA)(hb:PW X (.BoolOp .And (b::rest) pos) tB'):PW X (.BoolOp .And (a::b::rest) pos) (tAnd tA tB'):=by
 intro wh pins s σ H Q I h
 refine isTrue_and (thn (ha pins s σ H _ I h) fun c s1 ⟨H1,I1,q1⟩=>?_)
 cases c with
 | true=>exact hb wh pins s1 σ H1 Q I1 q1
 | false=>exact ⟨H1,I1,q1⟩
theorem pw_or(ha:PT X a tA)(hb:PW X (.BoolOp .Or (b::rest) pos) tB'):PW X (.BoolOp .Or (a::b::rest) pos) (tOr tA tB'):=by
 intro wh pins s σ H Q I h
 refine isTrue_or (thn (ha pins s σ H _ I h) fun c s1 ⟨H1,I1,q1⟩=>?_)
 cases c with
 | true=>exact ⟨H1,I1,q1⟩
 | false=>exact hb wh pins s1 σ H1 Q I1 q1
theorem pt_not(ha:PT X a tA):PT X (.UnaryOp .Not a pos) (tNot tA):=by
 intro pins s σ H Q I h
 exact isTrue_not (ha pins s σ H (fun c H1=>Q (!c) H1) I h)
noncomputable def tAndV(ta tb:TE):TE:=fun σ H Q=>ta σ H fun x H1=>∃ c,x=.bl c∧if c=true then tb σ H1 Q else Q (.bl false) H1
noncomputable def tNotV(ta:TE):TE:=fun σ H Q=>ta σ H fun x H1=>∃ c,x=.bl c∧Q (.bl (!c)) H1
theorem pe_one{op}{t:TE}(h:PE X a t):PE X (.BoolOp op [a] pos) t:=fun pins s σ H Q I hw=>BoolOp_one (h pins s σ H Q I hw)
theorem pe_and(ha:PE X a ta)(hb:PE X (.BoolOp .And (b::rest) pos) tb):PE X (.BoolOp .And (a::b::rest) pos) (tAndV ta tb):=by
 intro pins s σ H Q I h
 refine BoolOp_and (thn (ha pins s σ H _ I h) fun v s1 ⟨x,H1,I1,r1,q1⟩=>?_)
 obtain ⟨c,rfl,q1⟩:=q1
 cases r1
 refine wpAny_truthy_bool ?_
 cases c with
 | true=>exact hb pins s1 σ H1 Q I1 q1
 | false=>exact ⟨.bl false,H1,I1,rfl,q1⟩
theorem pe_not(ha:PE X a ta):PE X (.UnaryOp .Not a pos) (tNotV ta):=by
 intro pins s σ H Q I h
 refine UnaryOp_ (thn (ha pins s σ H _ I h) fun v s1 ⟨x,H1,I1,r1,q1⟩=>?_)
 obtain ⟨c,rfl,q1⟩:=q1
 cases r1
 exact not_of (wpAny_truthy_bool ⟨.bl (!c),H1,I1,rfl,q1⟩)
end
end L2
namespace L2
open PySem PySem.Spec PyProof.Rows
noncomputable def SqL(K:PySem.W.Frag)(H:Hp)(a:Addr)(xs:List V):Prop :=
 Rd H a (.lst xs)∨
  ∃ (o:Obj) (its:Array Value) (n:Nat),K.lookup a=some o∧o.cls=.type "list"∧o.dict=none∧o.data=.seq its n∧its.size≤sizeLine∧Vals xs its.toList
noncomputable def SqT(K:PySem.W.Frag)(H:Hp)(a:Addr)(xs:List V):Prop :=
 Rd H a (.tup xs)∨
  ∃ (o:Obj) (its:Array Value) (n:Nat),K.lookup a=some o∧o.cls=.type "tuple"∧o.data=.seq its n∧its.size≤sizeLine∧Vals xs its.toList
noncomputable def absV:Value→Option V
 | .none=>some .non
 | .bool b=>some (.bl b)
 | .int i _=>some (.int i)
 | .str x _=>some (.str x)
 | .bytes b _=>some (.byt b)
 | .float b _=>some (.flt b)
 | .ref a=>some (.ref a)
 | .type n=>some (.ty n)
 | _=>none
theorem RelV.abs{x:V}{u:Value}(r:RelV x u):absV u=some x:=by
 cases x with
 | non=>cases r;rfl
 | bl _=>cases r;rfl
 | int _=>obtain ⟨t,rfl⟩:=r;rfl
 | str _=>obtain ⟨t,rfl⟩:=r;rfl
 | byt _=>obtain ⟨t,rfl⟩:=r;rfl
 | flt _=>obtain ⟨t,rfl⟩:=r;rfl
 | ref _=>cases r;rfl
 | ty _=>cases r;rfl
theorem RelV.inj{x y:V}{u:Value}(r:RelV x u)(q:RelV y u):x=y:=Option.some.inj (r.abs.symm.trans q.abs)
theorem Vals.inj{xs ys:List V}{us:List Value}(a:Vals xs us)(b:Vals ys us):xs=ys:=by
 induction a generalizing ys with
 | nil=>cases b;rfl
 | cons r t ih =>
  cases b with
  | cons r' t'=>rw [r.inj r',ih t']
section
variable{X:Cx}{pins:List (Addr×Obj)}{σ:St}{H:Hp}{s:Shared}{a:Addr}{xs ys:List V}
theorem SqL.of{K:PySem.W.Frag}(h:H a=some (.lst xs)):SqL K H a xs:=.inl (.inl h)
theorem SqT.of{K:PySem.W.Frag}(h:H a=some (.tup xs)):SqT K H a xs:=.inl (.inl h)
theorem Inv.list(I:Inv X pins σ H s)(h:SqL X.K H a xs):∃ its:List Value,Vals xs its∧PlainL s.heap a its.toArray∧xs.length≤sizeLine:=by
 rcases h with h | ⟨o,its,n,hk,hc,hd,hs,hz,r⟩
 ·obtain ⟨z,its,n,r,e⟩:=h.ok I.hok
  exact ⟨its,r,⟨_,n,e,rfl,rfl,rfl⟩,z⟩
 ·refine ⟨its.toList,r,⟨o,n,I.kIn a o hk,hc,hd,by simpa using hs⟩,?_⟩
  have e:=r.length
  simp only [Array.length_toList] at e
  omega
theorem Inv.tuple(I:Inv X pins σ H s)(h:SqT X.K H a xs):∃ its:List Value,Vals xs its∧IsTup s.heap a its.toArray∧xs.length≤sizeLine:=by
 rcases h with h | ⟨o,its,n,hk,hc,hs,hz,r⟩
 ·obtain ⟨z,its,r,p⟩:=h.ok I.hok
  exact ⟨its,r,p,z⟩
 ·refine ⟨its.toList,r,⟨o,I.kIn a o hk,hc,n,by simpa using hs⟩,?_⟩
  have e:=r.length
  simp only [Array.length_toList] at e
  omega
theorem Inv.list_inj(I:Inv X pins σ H s)(h:SqL X.K H a xs)(h':SqL X.K H a ys):xs=ys:=by
 obtain ⟨its,r,⟨o,n,e,_,_,d⟩,_⟩:=I.list h
 obtain ⟨its',r',⟨o',n',e',_,_,d'⟩,_⟩:=I.list h'
 rw [e] at e';cases e'
 rw [d] at d'
 injection d' with d1 _
 have:its=its':=by simpa using congrArg Array.toList d1
 subst this
 exact r.inj r'
end
noncomputable abbrev Cx.wish(X:Cx)(E:Value→Shared→Prop):Cx:={X with xe:=E}
noncomputable abbrev Cx.nox(X:Cx):Cx:=X.wish fun _ _=>False
theorem Cx.Ok.wish{X:Cx}(ok:X.Ok)(E:Value→Shared→Prop):(X.wish E).Ok :=
 ⟨ok.mod,ok.kind,ok.glob,ok.blt,ok.above,ok.inj,ok.has,ok.cab,ok.hd,ok.frames,ok.stk,ok.exf,ok.bs,ok.bsz,ok.noex,ok.exfs,ok.funs,ok.frf⟩
theorem Cx.Ok.unwish{X:Cx}{E:Value→Shared→Prop}(ok:(X.wish E).Ok):X.Ok :=
 ⟨ok.mod,ok.kind,ok.glob,ok.blt,ok.above,ok.inj,ok.has,ok.cab,ok.hd,ok.frames,ok.stk,ok.exf,ok.bs,ok.bsz,ok.noex,ok.exfs,ok.funs,ok.frf⟩
section
variable{X:Cx}{pins:List (Addr×Obj)}{σ:St}{H:Hp}{s:Shared}{E:Value→Shared→Prop}
theorem Inv.wish(I:Inv X pins σ H s)(E:Value→Shared→Prop):Inv (X.wish E) pins σ H s:=⟨I.ok.wish E,I.os,I.bare,I.base,I.loc,I.cell,I.free,I.freeC,I.pin,I.hok,I.len⟩
theorem Inv.unwish(I:Inv (X.wish E) pins σ H s):Inv X pins σ H s:=⟨I.ok.unwish,I.os,I.bare,I.base,I.loc,I.cell,I.free,I.freeC,I.pin,I.hok,I.len⟩
theorem SP.unwish{D:Ends}{f:Flow}{s':Shared}(h:SP (X.wish E) pins D f s'):SP X pins D f s':=by
 cases f with
 | next=>obtain ⟨σ',H',I,q⟩:=h;exact ⟨σ',H',I.unwish,q⟩
 | brk=>obtain ⟨σ',H',I,q⟩:=h;exact ⟨σ',H',I.unwish,q⟩
 | cont=>obtain ⟨σ',H',I,q⟩:=h;exact ⟨σ',H',I.unwish,q⟩
 | ret u=>obtain ⟨v,σ',H',I,r,q⟩:=h;exact ⟨v,σ',H',I.unwish,r,q⟩
theorem PSs.nox{st:List Stmt}{t:TS}(h:PSs X.nox st t):PSs X st t:=fun pins s σ H D I hw =>
 wpAny_mono (h pins s σ H D (I.wish _) hw) (fun _ _ q=>q.unwish) fun _ _ z=>False.elim z
end
section
variable{X:Cx}{st:Stmt}{rest:List Stmt}{t u:TS}{e:Expr}{te:TE}{pos:Pos}
noncomputable def tNext:TS:=fun D σ H=>D.nx σ H
noncomputable def tSeq(t u:TS):TS:=fun D σ H=>t {D with nx:=u D} σ H
theorem pss_nil:PSs X [] tNext:=fun _ _ σ H _ I h=>wpAny_execs_nil ⟨σ,H,I,h⟩
theorem pss_cons(h1:PS X st t)(h2:PSs X rest u):PSs X (st::rest) (tSeq t u):=by
 intro pins s σ H D I h
 refine wpAny_execs_cons (thn (h1 pins s σ H {D with nx:=u D} I h) fun f s1 q=>?_)
 cases f with
 | next =>
  obtain ⟨σ',H',I',q⟩:=q
  exact h2 pins s1 σ' H' D I' q
 | ret v=>exact q
 | brk=>exact q
 | cont=>exact q
theorem pss_one(h1:PS X st t):PSs X [st] t:=by
 intro pins s σ H D I h
 refine wpAny_execs_cons (thn (h1 pins s σ H D I h) fun f s1 q=>?_)
 cases f with
 | next=>exact wpAny_execs_nil q
 | ret v=>exact q
 | brk=>exact q
 | cont=>exact q
theorem Inv.quiet{pins:List (Addr×Obj)}{σ:St}{H:Hp}{s:Shared}(I:Inv X pins σ H s):interactive X.env=false:=by simp [interactive,I.ok.kind]
noncomputable def tDrop(te:TE):TS:=fun D σ H=>te σ H fun _ H1=>D.nx σ H1
theorem ps_expr(he:PE X e te)(hs:swapsWith e none pos.line X.env=pure false:=by rfl):PS X (.Expr e pos) (tDrop te):=by
 intro pins s σ H D I h
 exact wpAny_Expr_any (thn (he pins s σ H _ I h) fun v s1 ⟨x,H1,I1,r1,q1⟩=>⟨σ,H1,I1,q1⟩) I.quiet hs
noncomputable def tRet(te:TE):TS:=fun D σ H=>te σ H D.rt
theorem ps_ret(he:PE X e te):PS X (.Return (some e) pos) (tRet te):=by
 intro pins s σ H D I h
 exact wpAny_Return_some (thn (he pins s σ H _ I h) fun v s1 ⟨x,H1,I1,r1,q1⟩=>⟨x,σ,H1,I1,r1,q1⟩)
noncomputable def tIfS(c:TT)(t u:TS):TS:=fun D σ H=>c σ H fun b H1=>if b=true then t D σ H1 else u D σ H1
theorem ps_if{c:Expr}{a b:List Stmt}{tc:TT}(hc:PT X c tc)(ha:PSs X a t)(hb:PSs X b u):PS X (.If c a b pos) (tIfS tc t u):=by
 intro pins s σ H D I h
 refine wpAny_If (thn (hc pins s σ H _ I h) fun d s1 ⟨H1,I1,q1⟩=>?_)
 cases d with
 | true=>exact ha pins s1 σ H1 D I1 q1
 | false=>exact hb pins s1 σ H1 D I1 q1
noncomputable def tNever:TS:=fun _ _ _=>False
theorem pss_never{sts:List Stmt}:PSs X sts tNever:=fun _ _ _ _ _ _ h=>h.elim
end
noncomputable abbrev TG:=V→St→Hp→(St→Hp→Prop)→Prop
noncomputable abbrev TGs:=List V→St→Hp→(St→Hp→Prop)→Prop
noncomputable def PG(X:Cx)(target:Expr)(t:TG):Prop :=
 ∀ (pins:List (Addr×Obj)) (s:Shared) (σ:St) (H:Hp) (v:V) (u:Value) (Q:St→Hp→Prop),Inv X pins σ H s→RelV v u→t v σ H Q→
  wpAny (model X.prog X.w) X.A (assign target X.env u) (fun _ s'=>∃ σ' H',Inv X pins σ' H' s'∧Q σ' H') X.xe s
noncomputable def PGs(X:Cx)(ts:List Expr)(t:TGs):Prop :=
 ∀ (pins:List (Addr×Obj)) (s:Shared) (σ:St) (H:Hp) (vs:List V) (us:List Value) (Q:St→Hp→Prop),Inv X pins σ H s→Vals vs us→t vs σ H Q→
  wpAny (model X.prog X.w) X.A (assignInOrder ((assignEach ts X.env).map (·.2)) us) (fun _ s'=>∃ σ' H',Inv X pins σ' H' s'∧Q σ' H') X.xe s
noncomputable abbrev TSet:=V→V→V→Hp→(Hp→Prop)→Prop
noncomputable def PSet(X:Cx)(t:TSet):Prop :=
 ∀ (pins:List (Addr×Obj)) (s:Shared) (σ:St) (H:Hp) (o i v:V) (ov iv u:Value) (Q:Hp→Prop),Inv X pins σ H s→RelV o ov→RelV i iv→RelV v u→t o i v H Q→
  wpAny (model X.prog X.w) X.A (setItem ov iv u) (fun _ s'=>∃ H',Inv X pins σ H' s'∧Q H') X.xe s
noncomputable abbrev TIp:=V→V→Hp→VK→Prop
section
variable{X:Cx}{pos:Pos}
noncomputable def gName(i:Nat):TG:=fun v σ H Q=>Q (σ.set i (some v)) H
theorem pg_name{i:Nat}{x:Str}(hN:X.N.Nodup)(hi:X.N[i]?=some x)(hx:Loc X.env.scope x)(hf:X.fn x=true∨X.env.scope.names.lookup x=some .local:=by first | exact .inl rfl | exact .inr rfl | assumption):PG X (.Name x pos) (gName i):=by
 intro pins s σ H v u Q I r h
 exact wpAny_assign_Name (store_ok I hN hi hx r (fun s' I'=>⟨_,H,I',h⟩) hf)
noncomputable def gNil:TGs:=fun vs σ H Q=>vs=[]∧Q σ H
noncomputable def gCons(t:TG)(u:TGs):TGs:=fun vs σ H Q=>∃ v r,vs=v::r∧t v σ H fun σ' H'=>u r σ' H' Q
theorem pgs_nil:PGs X [] gNil:=by
 intro pins s σ H vs us Q I r h
 obtain ⟨e,h⟩:=h
 subst e
 cases r
 exact assignInOrder_nil ⟨σ,H,I,h⟩
theorem pgs_cons{e:Expr}{es:List Expr}{t:TG}{u:TGs}(h1:PG X e t)(h2:PGs X es u)
  (hs:(assignEach (e::es) X.env).map (·.2)=assign e X.env::(assignEach es X.env).map (·.2):=by rfl):PGs X (e::es) (gCons t u):=by
 intro pins s σ H vs us Q I r h
 obtain ⟨v,vr,e1,h⟩:=h
 subst e1
 cases r with
 | cons r rr =>
  rw [hs]
  refine assignInOrder_cons (thn (h1 pins s σ H _ _ _ I r h) fun _ s1 ⟨σ1,H1,I1,q1⟩=>?_)
  exact h2 pins s1 σ1 H1 _ _ Q I1 rr q1
noncomputable def gTup(K:PySem.W.Frag)(n:Nat)(t:TGs):TG:=fun v σ H Q=>∃ a xs,v=.ref a∧SqT K H a xs∧xs.length=n∧t xs σ H Q
theorem pg_tup{es:List Expr}{k:Nat}{t:TGs}{n:Nat}(hc:X.calm=true)(h:PGs X es t)
  (hn:(assignEach es X.env).length=n:=by rfl) (hst:(assignEach es X.env).findIdx? (·.1)=none:=by rfl):PG X (.Tuple es k pos) (gTup X.K n t):=by
 intro pins s σ H v u Q I r hw
 obtain ⟨a,xs,e1,hq,hl,hw⟩:=hw
 subst e1
 cases r
 obtain ⟨its,rv,ht,hz⟩:=I.tuple hq
 refine assign_Tuple_tuple (I.ok.hd hc) ht (by simp [hn,← hl,rv.length]) hst fun h' hx=>?_
 have I1:Inv X pins σ H {s with heap:=h'}:=I.kept (t':=s.toks) fun b o e=>hx b o (Nat.ne_of_lt (Heap.lt_size e)) e
 exact h pins _ σ H xs _ Q I1 (by simpa using rv) hw
noncomputable def gSub(to ti:TE)(t:TSet):TG:=fun v σ H Q=>to σ H fun o H1=>ti σ H1 fun i H2=>t o i v H2 fun H3=>Q σ H3
theorem pg_sub{o i:Expr}{to ti:TE}{t:TSet}(ho:PE X o to)(hi:PE X i ti)(hs:PSet X t)
  (ha:∀ v,assign (.Subscript o i pos) X.env v=(do
   let ov ← holding [v] (eval o X.env)
   let iv ← holding [v,ov] (eval i X.env)
   standAt pos
   holding [v,ov,iv] (setItem ov iv v)
   release [v,ov,iv] []):=by intro _;rfl):PG X (.Subscript o i pos) (gSub to ti t):=by
 intro pins s σ H v u Q I r h
 rw [ha]
 refine wpAny_bind (wpAny_holding (thn (ho pins s σ H _ I h) fun ov s1 ⟨x,H1,I1,r1,q1⟩=>?_))
 refine wpAny_bind (wpAny_holding (thn (hi pins s1 σ H1 _ I1 q1) fun iv s2 ⟨y,H2,I2,r2,q2⟩=>?_))
 refine wpAny_bind (wpAny_standAt (wpAny_bind (wpAny_holding (thn (hs pins s2 σ H2 x y v ov iv u _ I2 r1 r2 r q2) fun _ s3 ⟨H3,I3,q3⟩=>?_))))
 exact wpAny_release ⟨σ,H3,I3,q3⟩
noncomputable def tAsg(te:TE)(g:TG):TS:=fun D σ H=>te σ H fun x H1=>g x σ H1 D.nx
theorem ps_asg{tg e:Expr}{te:TE}{g:TG}(he:PE X e te)(hg:PG X tg g)(hs:swapsWithSole [tg] e pos.line X.env=pure false:=by rfl)(hw:swappedStores [tg] e X.env=pure none:=by rfl)
  (h1:(assignEach [tg] X.env).map (·.2)=[assign tg X.env]:=by rfl):PS X (.Assign [tg] e pos) (tAsg te g):=by
 intro pins s σ H D I h
 refine wpAny_Assign_stores (thn (he pins s σ H _ I h) fun v s1 ⟨x,H1,I1,r1,q1⟩=>?_) hs hw
 rw [h1]
 exact thn (hg pins s1 σ H1 x v _ I1 r1 q1) fun _ s2 q=>q
theorem ps_set{i:Nat}{x:Str}{e:Expr}{te:TE}{pos':Pos}(hN:X.N.Nodup)(hi:X.N[i]?=some x)(hx:Loc X.env.scope x)(he:PE X e te)(hs:swapsWith e (some (.Name x pos')) pos.line X.env=pure false:=by rfl)(hf:X.fn x=true∨X.env.scope.names.lookup x=some .local:=by first | exact .inl rfl | exact .inr rfl | assumption) :
  PS X (.Assign [.Name x pos'] e pos) (tAsg te (gName i)):=by
 intro pins s σ H D I h
 refine wpAny_Assign_Name (thn (he pins s σ H _ I h) fun v s1 ⟨y,H1,I1,r1,q1⟩=>?_) hs
 exact store_ok I1 hN hi hx r1 (fun s2 I2=>⟨_,H1,I2,q1⟩) hf
end
section
variable{X:Cx}{pos:Pos}
noncomputable def tWhile(c:TT)(tb:TS):TS:=fun D σ H=>∃ W:Nat→St→Hp→Prop,(∃ m,W m σ H)∧∀ m σ H,W m σ H→
 c σ H fun b H1=>if b=true then ∃ N:St→Hp→Prop,(∀ σ' H',N σ' H'→∃ m',m'<m∧W m' σ' H')∧tb {D with nx:=N,ct:=N,bk:=D.nx} σ H1 else D.nx σ H1
theorem ps_while{c:Expr}{body:List Stmt}{tc:TT}{tb:TS}(hp:PassesOwn (model X.prog X.w) X.A X.env X.xe)(hc:PT X c tc)(hb:PSs X body tb):PS X (.While c body [] pos) (tWhile tc tb):=by
 intro pins s σ H D I h
 obtain ⟨W,⟨m0,w0⟩,turn⟩:=h
 refine wpAny_While (codeAny_whileLoop (fun n s'=>∃ σ' H',Inv X pins σ' H' s'∧W n σ' H') ?_ m0 ⟨σ,H,I,w0⟩)
 rintro n s1 ⟨σ1,H1,I1,w1⟩
 refine wpAny_passesOwn hp (thn (hc pins s1 σ1 H1 _ I1 (turn n σ1 H1 w1)) fun b s2 ⟨H2,I2,q2⟩=>?_)
 cases b with
 | true =>
  obtain ⟨N,hN,q2⟩:=q2
  rw [if_pos rfl]
  refine wpAny_passesOwn hp (thn (hb pins s2 σ1 H2 _ I2 q2) fun f s3 q3=>?_)
  cases f with
  | next =>
   obtain ⟨σ3,H3,I3,n3⟩:=q3
   obtain ⟨m',hm,w3⟩:=hN σ3 H3 n3
   exact ⟨m',hm,σ3,H3,I3,w3⟩
  | cont =>
   obtain ⟨σ3,H3,I3,n3⟩:=q3
   obtain ⟨m',hm,w3⟩:=hN σ3 H3 n3
   exact ⟨m',hm,σ3,H3,I3,w3⟩
  | brk=>exact q3
  | ret v=>exact q3
 | false =>
  rw [if_neg Bool.false_ne_true]
  exact wpAny_execs_nil ⟨σ1,H2,I2,q2⟩
end
structure It where
 go:Nat→Hp→Prop
 yld:Nat→Hp→V→Hp→Prop
 stop:Nat→Hp→Prop
noncomputable def FpOk(X:Cx)(pins:List (Addr×Obj))(H:Hp)(b:Addr):Prop :=
 H b=none∧b≠X.env.locals∧b∉X.fs∧(b∈X.ex∨X.s₀.heap.objs.size≤b)∧(∀ x c,X.env.cells.lookup x=some c→c≠b)∧∀ p∈X.pn++pins,p.1≠b
theorem Inv.fpOk{X:Cx}{pins:List (Addr×Obj)}{σ:St}{H H':Hp}{s:Shared}{b:Addr}(I:Inv X pins σ H s)(hb:s.heap.objs.size≤b)(hn:H' b=none):FpOk X pins H' b:=by
 refine ⟨hn,Nat.ne_of_gt (Nat.lt_of_lt_of_le I.lt hb),I.nofs hb,.inr (Nat.le_trans I.sz hb),fun x c e z=>?_,fun p hp z=>?_⟩
 ·obtain ⟨v,q⟩:=I.cell x c e
  exact absurd (Nat.lt_of_lt_of_le q.lt (by rw [z];exact hb)) (Nat.lt_irrefl _)
 ·exact absurd (Nat.lt_of_lt_of_le (Heap.lt_size (I.pin p hp).1) (by rw [z];exact hb)) (Nat.lt_irrefl _)
structure Turn(P:Program)(w:World)(K:PySem.W.Frag)(tg:Expr)(J:It)(fp:List Addr)(it:Addr)(tn:Nat→Heap→Prop):Prop where
 mem:it∈fp
 obj:∀ i h,tn i h→∀ b∈fp,∃ o,h.get? b=some o∧∀ v,o.data≠.cell v
 keep:∀ i h h',tn i h→(∀ b∈fp,∀ o,h.get? b=some o→h'.get? b=some o)→tn i h'
 item:∀ (X:Cx),X.prog=P→X.w=w→X.K=K→X.calm=true→∀ (i:Nat) (pins:List (Addr×Obj)) (s:Shared) (σ:St) (H:Hp) (E:Value→Shared→Prop),Inv X pins σ H s→(∀ b∈fp,FpOk X pins H b)→tn i s.heap→J.go i H→
  wpAny (model P w) X.A (pyNext (.ref it)) (fun r s1=>∃ u,r=some u∧
   wpAny (model P w) X.A (letOwnedTupleGo tg (.ref it) u) (fun _ s2=>∃ x H',Inv X pins σ H' s2∧RelV x u∧J.yld i H x H'∧tn (i+1) s2.heap∧∀ b∈fp,H' b=none) E s1) E s
 done:∀ (X:Cx),X.prog=P→X.w=w→X.K=K→X.calm=true→∀ (i:Nat) (pins:List (Addr×Obj)) (s:Shared) (σ:St) (H:Hp) (E:Value→Shared→Prop),Inv X pins σ H s→(∀ b∈fp,FpOk X pins H b)→tn i s.heap→J.stop i H→
  wpAny (model P w) X.A (pyNext (.ref it)) (fun r s1=>r=none∧Inv X pins σ H s1) E s
 self:∀ (A:Around) (i:Nat) (s:Shared) (Q:Value→Shared→Prop) (E:Value→Shared→Prop),tn i s.heap→Q (.ref it) s→wpAny (model P w) A (pyIter (.ref it)) Q E s
noncomputable abbrev TI:=St→Hp→(It→Hp→Prop)→Prop
noncomputable def PIE(X:Cx)(pins:List (Addr×Obj))(σ:St)(tg:Expr)(R:It→Hp→Prop)(itv:Value)(s2:Shared):Prop :=
 ∃ (it:Addr) (fp:List Addr) (tn:Nat→Heap→Prop) (J:It) (H':Hp),itv=.ref it∧Inv X pins σ H' s2∧Turn X.prog X.w X.K tg J fp it tn∧tn 0 s2.heap∧(∀ b∈fp,FpOk X pins H' b)∧R J H'
noncomputable def PI(X:Cx)(tg iter:Expr)(wi:TI):Prop :=
 ∀ (pins:List (Addr×Obj)) (s:Shared) (σ:St) (H:Hp) (R:It→Hp→Prop),Inv X pins σ H s→wi σ H R→
  wpAny (model X.prog X.w) X.A (eval iter X.env) (fun v s1=>wpAny (model X.prog X.w) X.A (pyIter v) (PIE X pins σ tg R) X.xe s1) X.xe s
theorem go_of{M:Model}{A:Around}{E:Value→Shared→Prop}{s:Shared}{tg:Expr}{it:Addr}{u:Value}{o:Obj}{n:String}{vs:Array Value}{Q:Unit→Shared→Prop}(ho:s.heap.get? it=some o)(hc:o.cls=.type n)(hd:o.data=.fields vs)
  (hn:["enumerate","zip","dict_itemiterator","dict_reverseitemiterator","odict_iterator","itertools.zip_longest","itertools.pairwise"].contains n=false) (hQ:Q () s):wpAny M A (letOwnedTupleGo tg (.ref it) u) Q E s:=by
 unfold letOwnedTupleGo
 cases tg <;> first
  | exact wpAny_pure hQ
  | (cases u <;> first
    | exact wpAny_pure hQ
    | (refine wpAny_bind (wpAny_load ho ?_)
       rw [hc,hd]
       show wpAny M A (if (["enumerate","zip","dict_itemiterator","dict_reverseitemiterator","odict_iterator","itertools.zip_longest","itertools.pairwise"].contains n&&vs[0]?==some (rawInt _))=true then _ else _) Q E s
       rw [if_neg (by intro h;rw [hn,Bool.false_and] at h;cases h)]
       exact wpAny_pure hQ))
noncomputable def Itl(K:PySem.W.Frag)(a:Addr):It :=
 ⟨fun i H=>∃ xs x,SqL K H a xs∧xs[i]?=some x,fun i H x H'=>H'=H∧∀ xs,SqL K H a xs→xs[i]?=some x,fun i H=>∃ xs,SqL K H a xs∧xs.length≤i⟩
noncomputable def Itr(lo:Int)(n:Nat):It:=⟨fun i _=>i<n,fun i H x H'=>H'=H∧x=.int (lo+i),fun i _=>n≤i⟩
theorem turn_list{P:Program}{w:World}{K:PySem.W.Frag}{tg:Expr}(a it:Addr):Turn P w K tg (Itl K a) [it] it (fun i h=>h.IsListIter it a i) where
 mem:=by simp
 obj:=fun i h st b hb=>by
  have e:b=it:=by simpa using hb
  subst e
  obtain ⟨o,e,c,d⟩:=st
  exact ⟨o,e,fun v z=>by rw [d] at z;cases z⟩
 keep:=fun i h h' st k=>st.at fun o e=>k it (by simp) o e
 item:=by
  intro X hP hw hK hc i pins s σ H E I hf st hg
  subst hP hw hK
  obtain ⟨xs,x,hq,hx⟩:=hg
  obtain ⟨its,rv,p,hz⟩:=I.list hq
  obtain ⟨u,hu,ru⟩:=rv.get hx
  obtain ⟨f0,f1,f2,f3,f4,f5⟩:=hf it (by simp)
  refine wpAny_pyNext_list_item st p.isList (x:=u) (by simpa using hu) fun h' st' sb=>?_
  have I1:Inv X pins σ H {s with heap:=h'}:=I.turned (t':=s.toks) (fun b o hb e=>(sb.2 b hb).trans e) f0 f1 f3 f4 f5
  obtain ⟨o,e,c,d⟩:=id st'
  exact ⟨u,rfl,go_of (s:={s with heap:=h'}) e c d (by decide) ⟨x,H,I1,ru,⟨rfl,fun ys hy=>by rw [I.list_inj hy hq];exact hx⟩,st',fun b hb=>(hf b hb).1⟩⟩
 done:=by
  intro X hP hw hK hc i pins s σ H E I hf st hg
  subst hP hw hK
  obtain ⟨xs,hq,hx⟩:=hg
  obtain ⟨its,rv,p,hz⟩:=I.list hq
  obtain ⟨f0,f1,f2,f3,f4,f5⟩:=hf it (by simp)
  have hl:=rv.length
  exact wpAny_pyNext_list_end (I.ok.hd hc) st p.isList (by simp;omega) fun h' eb=>⟨rfl,I.turned (t':=s.toks) (fun b o hb e=>eb b o hb e) f0 f1 f3 f4 f5⟩
 self:=fun _ _ _ _ _ st h=>wpAny_pyIter_listiter st h
theorem turn_range{P:Program}{w:World}{K:PySem.W.Frag}{tg:Expr}(it:Addr)(lo:Int)(n:Nat):Turn P w K tg (Itr lo n) [it] it (fun i h=>IsRangeIter h it (lo+(i:Nat)*1) ((n:Int) - (i:Nat)) 1) where
 mem:=by simp
 obj:=fun i h st b hb=>by
  have e:b=it:=by simpa using hb
  subst e
  exact ⟨_,st,fun v z=>by
   have z':Data.fields _=Data.cell v:=z
   cases z'⟩
 keep:=fun i h h' st k=>k it (by simp) _ st
 item:=by
  intro X hP hw hK hc i pins s σ H E I hf st hg
  subst hP hw hK
  obtain ⟨f0,f1,f2,f3,f4,f5⟩:=hf it (by simp)
  have W:=Walks.range (prog:=X.prog) (w:=X.w) (I.ok.hd hc) it lo 1 n
  refine W.item i s _ _ hg st fun v h' tk hv st' kk=>?_
  obtain ⟨t,rfl⟩:=hv
  have I1:Inv X pins σ H {s with heap:=h',toks:=tk}:=I.turned (fun b o hb e=>kk b o (by simpa using hb) e) f0 f1 f3 f4 f5
  refine ⟨_,rfl,go_of (s:={s with heap:=h',toks:=tk}) (n:="range_iterator") st' rfl rfl (by decide) ⟨.int (lo+i),H,I1,⟨t,?_⟩,⟨rfl,rfl⟩,st',fun b hb=>(hf b hb).1⟩⟩
  rw [Int.mul_one]
 done:=by
  intro X hP hw hK hc i pins s σ H E I hf st hg
  subst hP hw hK
  obtain ⟨f0,f1,f2,f3,f4,f5⟩:=hf it (by simp)
  exact wpAny_pyNext_range_end (I.ok.hd hc) st (by have:n≤i:=hg;omega) fun h' eb=>⟨rfl,I.turned (t':=s.toks) (fun b o hb e=>eb b o hb e) f0 f1 f3 f4 f5⟩
 self:=fun _ _ _ _ _ st h=>wpAny_pyIter_rangeiter st h
end L2
namespace L2
open PySem PySem.Spec PyProof.Rows
section
variable{X:Cx}{tg:Expr}
noncomputable def iList(K:PySem.W.Frag)(tl:TE):TI:=fun σ H R=>tl σ H fun x H1=>∃ a,x=.ref a∧(∃ xs,SqL K H1 a xs)∧R (Itl K a) H1
theorem pi_list{l:Expr}{tl:TE}(hl:PE X l tl):PI X tg l (iList X.K tl):=by
 intro pins s σ H R I h
 refine thn (hl pins s σ H _ I h) fun v s1 ⟨x,H1,I1,r1,q1⟩=>?_
 obtain ⟨a,e,⟨xs,hq⟩,q⟩:=q1
 subst e
 cases r1
 obtain ⟨its,rv,p,hz⟩:=I1.list hq
 refine wpAny_pyIter_list p.isList ?_
 refine ⟨s1.heap.objs.size,[s1.heap.objs.size],_,_,H1,rfl,I1.kept (t':=s1.toks) fun b o e=>Heap.get?_push_of_some _ e,turn_list a _,⟨_,Heap.get?_push_size _ rfl,rfl,rfl⟩,fun b hb=>?_,q⟩
 have e:b=s1.heap.objs.size:=by simpa using hb
 subst e
 exact I1.fpOk (Nat.le_refl _) (I1.hok.fresh (Nat.le_refl _))
theorem range_it{pins:List (Addr×Obj)}{σ:St}{H:Hp}{s:Shared}{R:It→Hp→Prop}{E:Value→Shared→Prop}{lo hi:Int}{t u v:Tok}{tk:Nat}(I:Inv X pins σ H s)(h1 : -(2 ^ 62)≤lo)(h2:lo<2 ^ 62)(h3 : -(2 ^ 62)≤hi)(h4:hi<2 ^ 62)
  (q:R (Itr lo (hi - lo).toNat) H):wpAny (model X.prog X.w) X.A (pyIter (.ref s.heap.objs.size)) (PIE X pins σ tg R) E {s with heap:=s.heap.push {cls:=.type "range",data:=.fields #[.int lo t,.int hi u,.int 1 v]},toks:=tk}:=by
 refine wpAny_pyIter_range (IsRange.new ..) (small_one h1 h2 h3 h4) ?_
 have I1:Inv X pins σ H {s with heap:=s.heap.push {cls:=.type "range",data:=.fields #[.int lo t,.int hi u,.int 1 v]},toks:=tk}:=I.kept fun b o e=>Heap.get?_push_of_some _ e
 refine ⟨(s.heap.push {cls:=.type "range",data:=.fields #[.int lo t,.int hi u,.int 1 v]}).objs.size,[(s.heap.push {cls:=.type "range",data:=.fields #[.int lo t,.int hi u,.int 1 v]}).objs.size],_,_,H,rfl,
  I1.kept (t':=tk) fun b o e=>Heap.get?_push_of_some _ e,turn_range _ lo (hi - lo).toNat,?_,fun b hb=>?_,q⟩
 ·have e1:lo+((0:Nat):Int)*1=lo:=by simp
  have e2:(((hi - lo).toNat:Nat):Int) - ((0:Nat):Int)=Builtin.Range.rangeSize lo hi 1:=by rw [rangeSize_one];split <;> omega
  show IsRangeIter _ _ (lo+((0:Nat):Int)*1) ((((hi - lo).toNat:Nat):Int) - ((0:Nat):Int)) 1
  rw [e1,e2]
  exact Heap.get?_push_size _ rfl
 ·have e:b=(s.heap.push {cls:=.type "range",data:=.fields #[.int lo t,.int hi u,.int 1 v]}).objs.size:=by simpa using hb
  subst e
  exact I1.fpOk (Nat.le_refl _) (I1.hok.fresh (Nat.le_refl _))
noncomputable def iRng1(ta:TA):TI:=fun σ H R=>ta σ H fun vs H1=>∃ j:Int,vs=[.int j]∧-(2 ^ 62)≤j∧j<2 ^ 62∧R (Itr 0 j.toNat) H1
noncomputable def iRng2(ta:TA):TI:=fun σ H R=>ta σ H fun vs H1=>∃ i j:Int,vs=[.int i,.int j]∧(-(2 ^ 62)≤i∧i<2 ^ 62∧-(2 ^ 62)≤j∧j<2 ^ 62)∧R (Itr i (j - i).toNat) H1
theorem pi_range1{a:Expr}{ta:TA}{p pos:Pos}(hg:Gl X "range")(hm:X.mg "range"=none)(ha:PA X [a] ta)(hs:starEach [a] X.env=[(false,eval a X.env)]:=by rfl):PI X tg (.Call (.Name "range" p) [a] [] pos) (iRng1 ta):=by
 intro pins s σ H R I h
 refine Call_ (ld_blt I hg hm boot_range (PyProof.Rows.callWith_type1 (thn (ha pos pins s σ H _ I h) fun us s1 ⟨vs,H1,I1,r1,q1⟩=>?_) hs rfl))
 obtain ⟨j,e,q1,q2,q⟩:=q1
 subst e
 cases r1 with
 | cons r rr =>
  cases rr
  obtain ⟨t,rfl⟩:=r
  exact call_range_1 (range_it I1 (by omega) (by omega) q1 q2 (by simpa using q))
theorem pi_range2{a b:Expr}{ta:TA}{p pos:Pos}(hg:Gl X "range")(hm:X.mg "range"=none)(ha:PA X [a,b] ta)(hs:starEach [a,b] X.env=[(false,eval a X.env),(false,eval b X.env)]:=by rfl)(hs2:starEach [b] X.env=[(false,eval b X.env)]:=by rfl) :
  PI X tg (.Call (.Name "range" p) [a,b] [] pos) (iRng2 ta):=by
 intro pins s σ H R I h
 refine Call_ (ld_blt I hg hm boot_range (PyProof.Rows.callWith_type1 (thn (ha pos pins s σ H _ I h) fun us s1 ⟨vs,H1,I1,r1,q1⟩=>?_) (by rw [hs,hs2]) (by rw [hs2];rfl)))
 obtain ⟨i,j,e,⟨q1,q2,q3,q4⟩,q⟩:=q1
 subst e
 cases r1 with
 | cons r rr =>
  cases rr with
  | cons r' rr =>
   cases rr
   obtain ⟨t,rfl⟩:=r
   obtain ⟨t',rfl⟩:=r'
   exact call_range_2 (range_it I1 q1 q2 q3 q4 q)
noncomputable def tFor(wi:TI)(g:TG)(tb:TS):TS:=fun D σ H=>wi σ H fun J H1=>∃ W:Nat→Nat→St→Hp→Prop,(∃ m,W 0 m σ H1)∧∀ i m σ H,W i m σ H→
 (J.stop i H∧D.nx σ H)∨(J.go i H∧∃ N:St→Hp→Prop,(∀ σ' H',N σ' H'→∃ m',m'<m∧W (i+1) m' σ' H')∧∀ x H',J.yld i H x H'→g x σ H' fun σ2 H2=>tb {D with nx:=N,ct:=N,bk:=D.nx} σ2 H2)
noncomputable def pinsAt(fp:List Addr)(h:Heap):List (Addr×Obj):=fp.filterMap fun b=>(h.get? b).map fun o=>(b,o)
theorem mem_pinsAt{fp:List Addr}{h:Heap}{b:Addr}{o:Obj}(hb:b∈fp)(e:h.get? b=some o):(b,o)∈pinsAt fp h:=List.mem_filterMap.mpr ⟨b,hb,by rw [e];rfl⟩
theorem of_pinsAt{fp:List Addr}{h:Heap}{p:Addr×Obj}(hp:p∈pinsAt fp h):p.1∈fp∧h.get? p.1=some p.2:=by
 obtain ⟨b,hb,e⟩:=List.mem_filterMap.mp hp
 cases q:h.get? b with
 | none=>rw [q] at e;cases e
 | some o =>
  rw [q] at e
  have e':(b,o)=p:=Option.some.inj e
  subst e'
  exact ⟨hb,q⟩
theorem Inv.pinned{pins:List (Addr×Obj)}{σ:St}{H:Hp}{s:Shared}{fp:List Addr}(I:Inv X pins σ H s)(hf:∀ b∈fp,FpOk X pins H b)(ho:∀ b∈fp,∃ o,s.heap.get? b=some o∧∀ v,o.data≠.cell v):Inv X (pins++pinsAt fp s.heap) σ H s :=
 I.pins_of fun p hp=>(List.mem_append.mp hp).elim (fun z=>I.pin p (List.mem_append_right _ z)) fun z=>by
  obtain ⟨hb,e⟩:=of_pinsAt z
  obtain ⟨f0,f1,f2,_⟩:=hf p.1 hb
  obtain ⟨o,e',d⟩:=ho p.1 hb
  rw [e] at e';cases e'
  exact ⟨e,f0,f1,f2,d⟩
theorem Inv.unpinned{pins pl:List (Addr×Obj)}{σ:St}{H:Hp}{s:Shared}(I:Inv X (pins++pl) σ H s):Inv X pins σ H s:=I.pins_of fun p hp=>I.pin p (List.mem_append_right _ (List.mem_append_left _ hp))
theorem ps_for{iter:Expr}{body:List Stmt}{wi:TI}{g:TG}{tb:TS}{pos:Pos}(hp:PassesOwn (model X.prog X.w) X.A X.env X.xe)(hc:X.calm=true)(hi:PI X tg iter wi)(hg:PG X tg g)(hb:PSs X body tb)
  (hs:∀ x,foldedSetIterable iter X.env x=pure x:=by intro _;rfl):PS X (.For tg iter body [] pos) (tFor wi g tb):=by
 intro pins s σ H D I h
 refine wpAny_For (thn (hi pins s σ H _ I h) fun v s1 h1=>thn h1 fun itv s2 h2=>?_) hs
 obtain ⟨it,fp,tn,J,H2,e,I2,T,st2,f2,W,⟨m0,w0⟩,turn⟩:=h2
 subst e
 -- what stays true of the iterator's objects through the loop
 have stat:∀ {H':Hp},(∀ b∈fp,H' b=none)→∀ b∈fp,FpOk X pins H' b:=fun hn b hb=>⟨hn b hb,(f2 b hb).2⟩
 refine codeAny_forLoop_any (fun n s'=>∃ i σ' H',Inv X pins σ' H' s'∧tn i s'.heap∧(∀ b∈fp,H' b=none)∧W i n σ' H') ?_ m0 ⟨0,σ,H2,I2,st2,fun b hb=>(f2 b hb).1,w0⟩
 rintro n s3 ⟨i,σ3,H3,I3,st3,fr3,w3⟩
 rcases turn i n σ3 H3 w3 with ⟨stop,qn⟩ | ⟨go,N,hN,step⟩
 ·refine wpAny_passesOwn hp (thn (T.done X rfl rfl rfl hc i pins s3 σ3 H3 X.xe I3 (stat fr3) st3 stop) fun r s4 ⟨hr,I4⟩=>?_)
  subst hr
  exact wpAny_execs_nil ⟨σ3,H3,I4,qn⟩
 ·refine wpAny_passesOwn hp (thn (T.item X rfl rfl rfl hc i pins s3 σ3 H3 X.xe I3 (stat fr3) st3 go) fun r s4 ⟨u,hr,h4⟩=>?_)
  subst hr
  refine wpAny_passesOwn hp (thn h4 fun _ s5 ⟨x,H5,I5,r5,y5,st5,fr5⟩=>?_)
  have I5':=I5.pinned (stat fr5) (T.obj _ _ st5)
  refine wpAny_passesOwn hp (thn (hg _ s5 σ3 H5 x u _ I5' r5 (step x H5 y5)) fun _ s6 ⟨σ6,H6,I6,q6⟩=>?_)
  refine wpAny_passesOwn hp (thn (hb _ s6 σ6 H6 _ I6 q6) fun f s7 q7=>?_)
  have again:∀ {σ7:St} {H7:Hp},Inv X (pins++pinsAt fp s5.heap) σ7 H7 s7→N σ7 H7→∃ m,m<n∧∃ i σ' H',Inv X pins σ' H' s7∧tn i s7.heap∧(∀ b∈fp,H' b=none)∧W i m σ' H':=fun {σ7 H7} I7 n7=>by
   obtain ⟨m',hm,w7⟩:=hN σ7 H7 n7
   refine ⟨m',hm,i+1,σ7,H7,I7.unpinned,T.keep _ _ _ st5 fun b hb o e=>(I7.pin (b,o) (List.mem_append_right _ (List.mem_append_right _ (mem_pinsAt hb e)))).1,fun b hb=>?_,w7⟩
   obtain ⟨o,e,d⟩:=T.obj _ _ st5 b hb
   exact (I7.pin (b,o) (List.mem_append_right _ (List.mem_append_right _ (mem_pinsAt hb e)))).2.1
  cases f with
  | next=>obtain ⟨σ7,H7,I7,n7⟩:=q7;exact again I7 n7
  | cont=>obtain ⟨σ7,H7,I7,n7⟩:=q7;exact again I7 n7
  | brk=>obtain ⟨σ7,H7,I7,q7⟩:=q7;exact ⟨σ7,H7,I7.unpinned,q7⟩
  | ret v=>obtain ⟨x7,σ7,H7,I7,r7,q7⟩:=q7;exact ⟨x7,σ7,H7,I7.unpinned,r7,q7⟩
end
theorem for_list{K:PySem.W.Frag}{a:Addr}{xs:List V}{g:TG}{tb:TS}{D:Ends}{σ:St}{H:Hp}(Pv:Nat→St→Hp→Prop)(h0:Pv 0 σ H)(hl:∀ i σ H,i≤xs.length→Pv i σ H→SqL K H a xs)
  (hs:∀ i x σ H,xs[i]?=some x→Pv i σ H→g x σ H fun σ2 H2=>tb {D with nx:=Pv (i+1),ct:=Pv (i+1),bk:=D.nx} σ2 H2) (hd:∀ σ H,Pv xs.length σ H→D.nx σ H) :
  ∃ W:Nat→Nat→St→Hp→Prop,(∃ m,W 0 m σ H)∧∀ i m σ H,W i m σ H→
   ((Itl K a).stop i H∧D.nx σ H)∨((Itl K a).go i H∧∃ N:St→Hp→Prop,(∀ σ' H',N σ' H'→∃ m',m'<m∧W (i+1) m' σ' H')∧∀ x H',(Itl K a).yld i H x H'→g x σ H' fun σ2 H2=>tb {D with nx:=N,ct:=N,bk:=D.nx} σ2 H2):=by
 refine ⟨fun i m σ H=>m=xs.length - i∧i≤xs.length∧Pv i σ H,⟨xs.length,by simp,Nat.zero_le _,h0⟩,?_⟩
 rintro i m σ H ⟨rfl,hi,p⟩
 have q:=hl i σ H hi p
 by_cases hlt:i<xs.length
 ·refine .inr ⟨⟨xs,xs[i],q,by simp [hlt]⟩,Pv (i+1),fun σ' H' p'=>⟨xs.length - (i+1),by omega,rfl,hlt,p'⟩,fun x H' y=>?_⟩
  obtain ⟨e,y⟩:=y
  subst e
  exact hs i x σ _ (y xs q) p
 ·have e:i=xs.length:=by omega
  subst e
  exact .inl ⟨⟨xs,q,Nat.le_refl _⟩,hd σ H p⟩
theorem for_range{lo:Int}{n:Nat}{g:TG}{tb:TS}{D:Ends}{σ:St}{H:Hp}(Pv:Nat→St→Hp→Prop)(h0:Pv 0 σ H)
  (hs:∀ i σ H,i<n→Pv i σ H→g (.int (lo+i)) σ H fun σ2 H2=>tb {D with nx:=Pv (i+1),ct:=Pv (i+1),bk:=D.nx} σ2 H2) (hd:∀ σ H,Pv n σ H→D.nx σ H) :
  ∃ W:Nat→Nat→St→Hp→Prop,(∃ m,W 0 m σ H)∧∀ i m σ H,W i m σ H→
   ((Itr lo n).stop i H∧D.nx σ H)∨((Itr lo n).go i H∧∃ N:St→Hp→Prop,(∀ σ' H',N σ' H'→∃ m',m'<m∧W (i+1) m' σ' H')∧∀ x H',(Itr lo n).yld i H x H'→g x σ H' fun σ2 H2=>tb {D with nx:=N,ct:=N,bk:=D.nx} σ2 H2):=by
 refine ⟨fun i m σ H=>m=n - i∧i≤n∧Pv i σ H,⟨n,by simp,Nat.zero_le _,h0⟩,?_⟩
 rintro i m σ H ⟨rfl,hi,p⟩
 by_cases hlt:i<n
 ·refine .inr ⟨hlt,Pv (i+1),fun σ' H' p'=>⟨n - (i+1),by omega,rfl,hlt,p'⟩,fun x H' y=>?_⟩
  obtain ⟨e,y⟩:=y
  subst e y
  exact hs i σ _ hlt p
 ·have e:i=n:=by omega
  subst e
  exact .inl ⟨Nat.le_refl _,hd σ H p⟩
end L2
namespace L2
open PySem PySem.Spec PyProof.Rows
noncomputable abbrev R2:=V→V→Hp→VK→Prop
noncomputable def OpR(X:Cx)(f:Value→Value→Sem Value)(r:R2):Prop :=
 ∀ (pins:List (Addr×Obj)) (s:Shared) (σ:St) (H:Hp) (x y:V) (v u:Value) (Q:VK),Inv X pins σ H s→RelV x v→RelV y u→r x y H Q→
  wpAny (model X.prog X.w) X.A (f v u) (EP X pins σ Q) X.xe s
noncomputable def UnR(X:Cx)(f:Value→Sem Value)(r:V→Hp→VK→Prop):Prop :=
 ∀ (pins:List (Addr×Obj)) (s:Shared) (σ:St) (H:Hp) (x:V) (v:Value) (Q:VK),Inv X pins σ H s→RelV x v→r x H Q→
  wpAny (model X.prog X.w) X.A (f v) (EP X pins σ Q) X.xe s
noncomputable def CallR(X:Cx)(f:Value)(r:List V→Hp→VK→Prop):Prop :=
 ∀ (pins:List (Addr×Obj)) (s:Shared) (σ:St) (H:Hp) (xs:List V) (us:List Value) (Q:VK),Inv X pins σ H s→Vals xs us→r xs H Q→
  wpAny (model X.prog X.w) X.A (call f us) (EP X pins σ Q) X.xe s
noncomputable def tOp(r:R2)(ta tb:TE):TE:=fun σ H Q=>ta σ H fun x H1=>tb σ H1 fun y H2=>r x y H2 Q
noncomputable def tUn(r:V→Hp→VK→Prop)(ta:TE):TE:=fun σ H Q=>ta σ H fun x H1=>r x H1 Q
noncomputable def rI(C:Int→Int→Prop)(g:Int→Int→V):R2:=fun x y H Q=>∃ i j,x=.int i∧y=.int j∧C i j∧Q (g i j) H
noncomputable def rI0(g:Int→Int→V):R2:=fun x y H Q=>∃ i j,x=.int i∧y=.int j∧Q (g i j) H
noncomputable def rU(g:Int→V):V→Hp→VK→Prop:=fun x H Q=>∃ i,x=.int i∧Q (g i) H
section
variable{X:Cx}{a b c:Expr}{ta tb tc:TE}{pos:Pos}
theorem binT(ha:PE X a ta)(hb:PE X b tb){pins:List (Addr×Obj)}{s:Shared}{σ:St}{H:Hp}{R:V→V→Hp→Prop}(I:Inv X pins σ H s)
  (h:ta σ H fun x H1=>tb σ H1 fun y H2=>R x y H2) {Q:Value→Shared→Prop} {f:Value→Value→Sem Value}
  (hf:∀ v u s2 x y H2,Inv X pins σ H2 s2→RelV x v→RelV y u→R x y H2→wpAny (model X.prog X.w) X.A (f v u) Q X.xe s2) :
  wpAny (model X.prog X.w) X.A (eval a X.env) (fun v s₁=>wpAny (model X.prog X.w) X.A (eval b X.env) (fun u s₂=>wpAny (model X.prog X.w) X.A (f v u) Q X.xe s₂) X.xe s₁) X.xe s:=by
 refine thn (ha pins s σ H _ I h) fun v s1 ⟨x,H1,I1,r1,q1⟩=>?_
 refine thn (hb pins s1 σ H1 _ I1 q1) fun u s2 ⟨y,H2,I2,r2,q2⟩=>?_
 exact hf v u s2 x y H2 I2 r1 r2 q2
theorem pe_op{op:Operator}{r:R2}(ho:OpR X (binaryOp op) r)(ha:PE X a ta)(hb:PE X b tb):PE X (.BinOp a op b pos) (tOp r ta tb):=by
 intro pins s σ H Q I h
 exact wpAny_BinOp (binT ha hb I h fun v u s2 x y H2 I2 rx ry q=>ho pins s2 σ H2 x y v u Q I2 rx ry q)
theorem pe_un{op:UnaryOp}{r:V→Hp→VK→Prop}(ho:UnR X (unaryOp op) r)(ha:PE X a ta):PE X (.UnaryOp op a pos) (tUn r ta):=by
 intro pins s σ H Q I h
 exact UnaryOp_ (thn (ha pins s σ H _ I h) fun v s1 ⟨x,H1,I1,r1,q1⟩=>ho pins s1 σ H1 x v Q I1 r1 q1)
theorem opI{f:Value→Value→Sem Value}{C:Int→Int→Prop}{g:Int→Int→Int}
  (rule:∀ (i j:Int) (t u:Tok) (s:Shared) (Q:Value→Shared→Prop) (E:Value→Shared→Prop),C i j→Q (.int (g i j) s.toks) {s with toks:=s.toks+1}→wpAny (model X.prog X.w) X.A (f (.int i t) (.int j u)) Q E s) :
  OpR X f (rI C fun i j=>.int (g i j)):=by
 intro pins s σ H x y v u Q I rx ry h
 obtain ⟨i,j,rfl,rfl,hc,q⟩:=h
 obtain ⟨t,rfl⟩:=rx
 obtain ⟨t',rfl⟩:=ry
 exact rule i j t t' s _ _ hc ⟨.int (g i j),H,I.tok _,⟨_,rfl⟩,q⟩
theorem opI0{f:Value→Value→Sem Value}{g:Int→Int→Int}
  (rule:∀ (i j:Int) (t u:Tok) (s:Shared) (Q:Value→Shared→Prop) (E:Value→Shared→Prop),Q (.int (g i j) s.toks) {s with toks:=s.toks+1}→wpAny (model X.prog X.w) X.A (f (.int i t) (.int j u)) Q E s) :
  OpR X f (rI0 fun i j=>.int (g i j)):=by
 intro pins s σ H x y v u Q I rx ry h
 obtain ⟨i,j,rfl,rfl,q⟩:=h
 obtain ⟨t,rfl⟩:=rx
 obtain ⟨t',rfl⟩:=ry
 exact rule i j t t' s _ _ ⟨.int (g i j),H,I.tok _,⟨_,rfl⟩,q⟩
theorem opB0{f:Value→Value→Sem Value}{g:Int→Int→Bool}
  (rule:∀ (i j:Int) (t u:Tok) (s:Shared) (Q:Value→Shared→Prop) (E:Value→Shared→Prop),Q (.bool (g i j)) s→wpAny (model X.prog X.w) X.A (f (.int i t) (.int j u)) Q E s) :
  OpR X f (rI0 fun i j=>.bl (g i j)):=by
 intro pins s σ H x y v u Q I rx ry h
 obtain ⟨i,j,rfl,rfl,q⟩:=h
 obtain ⟨t,rfl⟩:=rx
 obtain ⟨t',rfl⟩:=ry
 exact rule i j t t' s _ _ ⟨.bl (g i j),H,I,rfl,q⟩
noncomputable def CDiv(i j:Int):Prop:=0<j∧j<1073741824
noncomputable def CPow(i j:Int):Prop:=0≤j∧j≤1000000∧i.natAbs<2 ^ 64
noncomputable def CMul(i j:Int):Prop:=(-(2 ^ 64)<i∧i<2 ^ 64)∨(-(2 ^ 64)<j∧j<2 ^ 64)
theorem CMul.ok{i j:Int}(h:CMul i j):IntMulOk i j:=by
 rcases h with ⟨h1,h2⟩ | ⟨h1,h2⟩
 ·exact .of_left (intBits_le_64 h1 h2)
 ·exact .of_right (intBits_le_64 h1 h2)
theorem op_add:OpR X (binaryOp .Add) (rI0 fun i j=>.int (i+j)):=opI0 fun _ _ _ _ _ _ _ q=>add_int q
theorem op_sub:OpR X (binaryOp .Sub) (rI0 fun i j=>.int (i - j)):=opI0 fun _ _ _ _ _ _ _ q=>sub_int q
theorem op_mul:OpR X (binaryOp .Mult) (rI CMul fun i j=>.int (i*j)):=opI fun _ _ _ _ _ _ _ hc q=>mul_int q hc.ok
theorem op_fdiv:OpR X (binaryOp .FloorDiv) (rI CDiv fun i j=>.int (i / j)):=opI fun i j _ _ _ _ _ hc q=>by
 have h1:(0:Int)<j:=hc.1
 have h2:j<1073741824:=hc.2
 exact floordiv_int (by omega) (by rw [Int.fdiv_eq_ediv_of_nonneg i (by omega)];exact q) (.inl (PyProof.noPylong_small (by omega)))
theorem op_mod:OpR X (binaryOp .Mod) (rI (fun _ j=>0<j) fun i j=>.int (i % j)):=opI fun i j _ _ _ _ _ hc q=>by
 have h1:(0:Int)<j:=hc
 exact mod_int' (by omega) (by rw [Int.fmod_eq_emod_of_nonneg i (by omega)];exact q)
theorem op_pow:OpR X (binaryOp .Pow) (rI CPow fun i j=>.int (i ^ j.toNat)):=opI fun _ _ _ _ _ _ _ hc q=>pow_int_small hc.1 hc.2.1 hc.2.2 q
theorem unI{f:Value→Sem Value}{g:Int→Int}
  (rule:∀ (i:Int) (t:Tok) (s:Shared) (Q:Value→Shared→Prop) (E:Value→Shared→Prop),Q (.int (g i) s.toks) {s with toks:=s.toks+1}→wpAny (model X.prog X.w) X.A (f (.int i t)) Q E s) :
  UnR X f (rU fun i=>.int (g i)):=by
 intro pins s σ H x v Q I rx h
 obtain ⟨i,rfl,q⟩:=h
 obtain ⟨t,rfl⟩:=rx
 exact rule i t s _ _ ⟨.int (g i),H,I.tok _,⟨_,rfl⟩,q⟩
theorem un_neg:UnR X (unaryOp .USub) (rU fun i=>.int (-i)):=unI fun _ _ _ _ _ q=>neg_int q
end
noncomputable def scal:V→V→Bool
 | .non,.non=>true | .non,.int _=>true | .int _,.non=>true | .non,.bl _=>true | .bl _,.non=>true | .non,.str _=>true | .str _,.non=>true
 | .int _,.int _=>true | .bl _,.bl _=>true | .str _,.str _=>true | .byt _,.byt _=>true
 | .int _,.str _=>true | .str _,.int _=>true | .bl _,.str _=>true | .str _,.bl _=>true
 | _,_=>false
noncomputable def rEq:R2:=fun x y H Q=>scal x y=true∧Q (.bl (decide (x=y))) H
noncomputable def rNe:R2:=fun x y H Q=>scal x y=true∧Q (.bl (!decide (x=y))) H
theorem dec_int{i j:Int}:decide (V.int i=V.int j)=(i==j):=by
 rw [Bool.eq_iff_iff]
 simp
theorem dec_bl{i j:Bool}:decide (V.bl i=V.bl j)=(i==j):=by
 rw [Bool.eq_iff_iff]
 simp
theorem dec_str{i j:Str}:decide (V.str i=V.str j)=(i==j):=by
 rw [Bool.eq_iff_iff]
 simp
theorem dec_byt{i j:Array UInt8}:decide (V.byt i=V.byt j)=(i.toList==j.toList):=by
 rw [Bool.eq_iff_iff]
 cases i
 cases j
 simp
section
variable{X:Cx}{a b c:Expr}{ta tb tc:TE}{pos:Pos}
theorem fin_bl{pins:List (Addr×Obj)}{σ:St}{H:Hp}{s:Shared}{Q:VK}{k k':Bool}(I:Inv X pins σ H s)(q:Q (.bl k) H)(e:k=k'):EP X pins σ Q (.bool k') s:=by
 subst e
 exact ⟨.bl k,H,I,rfl,q⟩
theorem op_eq:OpR X (compareOp .Eq) rEq:=by
 intro pins s σ H x y v u Q I rx ry h
 obtain ⟨hs,q⟩:=h
 cases x with
 | non =>
  cases rx
  cases y with
  | non=>cases ry;exact PySem.EqNone.eq_none_none (fin_bl I q (by simp))
  | bl j=>cases ry;exact PySem.EqNone.eq_none_bool (fin_bl I q (by simp))
  | int j=>obtain ⟨t',rfl⟩:=ry;exact PySem.EqNone.eq_none_int (fin_bl I q (by simp))
  | str j=>obtain ⟨t',rfl⟩:=ry;exact PySem.EqNone.eq_none_str (fin_bl I q (by simp))
  | _=>exact absurd (show false=true from hs) Bool.false_ne_true
 | bl i =>
  cases rx
  cases y with
  | non=>cases ry;exact PySem.EqNone.eq_bool_none (fin_bl I q (by simp))
  | bl j=>cases ry;exact eq_bool (fin_bl I q dec_bl)
  | str j=>obtain ⟨t',rfl⟩:=ry;exact PySem.EqMixed.eq_bool_str (fin_bl I q (by simp))
  | _=>exact absurd (show false=true from hs) Bool.false_ne_true
 | int i =>
  obtain ⟨t,rfl⟩:=rx
  cases y with
  | non=>cases ry;exact PySem.EqNone.eq_int_none (fin_bl I q (by simp))
  | int j=>obtain ⟨t',rfl⟩:=ry;exact eq_int (fin_bl I q dec_int)
  | str j=>obtain ⟨t',rfl⟩:=ry;exact PySem.EqMixed.eq_int_str (fin_bl I q (by simp))
  | _=>exact absurd (show false=true from hs) Bool.false_ne_true
 | str i =>
  obtain ⟨t,rfl⟩:=rx
  cases y with
  | non=>cases ry;exact PySem.EqNone.eq_str_none (fin_bl I q (by simp))
  | bl j=>cases ry;exact PySem.EqMixed.eq_str_bool (fin_bl I q (by simp))
  | int j=>obtain ⟨t',rfl⟩:=ry;exact PySem.EqMixed.eq_str_int (fin_bl I q (by simp))
  | str j=>obtain ⟨t',rfl⟩:=ry;exact eq_str (fin_bl I q dec_str)
  | _=>exact absurd (show false=true from hs) Bool.false_ne_true
 | byt i =>
  obtain ⟨t,rfl⟩:=rx
  cases y with
  | byt j=>obtain ⟨t',rfl⟩:=ry;exact PySem.W.eq_bytes (fin_bl I q dec_byt)
  | _=>exact absurd (show false=true from hs) Bool.false_ne_true
 | _=>cases y <;> exact absurd (show false=true from hs) Bool.false_ne_true
theorem op_ne:OpR X (compareOp .NotEq) rNe:=by
 intro pins s σ H x y v u Q I rx ry h
 obtain ⟨hs,q⟩:=h
 cases x with
 | non =>
  cases rx
  cases y with
  | non=>cases ry;exact PySem.EqNone.ne_none_none (fin_bl I q (by simp))
  | bl j=>cases ry;exact PySem.EqNone.ne_none_bool (fin_bl I q (by simp))
  | int j=>obtain ⟨t',rfl⟩:=ry;exact PySem.EqNone.ne_none_int (fin_bl I q (by simp))
  | str j=>obtain ⟨t',rfl⟩:=ry;exact PySem.EqNone.ne_none_str (fin_bl I q (by simp))
  | _=>exact absurd (show false=true from hs) Bool.false_ne_true
 | bl i =>
  cases rx
  cases y with
  | non=>cases ry;exact PySem.EqNone.ne_bool_none (fin_bl I q (by simp))
  | bl j=>cases ry;exact ne_bool (fin_bl I q (congrArg not dec_bl))
  | str j=>obtain ⟨t',rfl⟩:=ry;exact PySem.EqMixed.ne_bool_str (fin_bl I q (by simp))
  | _=>exact absurd (show false=true from hs) Bool.false_ne_true
 | int i =>
  obtain ⟨t,rfl⟩:=rx
  cases y with
  | non=>cases ry;exact PySem.EqNone.ne_int_none (fin_bl I q (by simp))
  | int j=>obtain ⟨t',rfl⟩:=ry;exact ne_int (fin_bl I q (congrArg not dec_int))
  | str j=>obtain ⟨t',rfl⟩:=ry;exact PySem.EqMixed.ne_int_str (fin_bl I q (by simp))
  | _=>exact absurd (show false=true from hs) Bool.false_ne_true
 | str i =>
  obtain ⟨t,rfl⟩:=rx
  cases y with
  | non=>cases ry;exact PySem.EqNone.ne_str_none (fin_bl I q (by simp))
  | bl j=>cases ry;exact PySem.EqMixed.ne_str_bool (fin_bl I q (by simp))
  | int j=>obtain ⟨t',rfl⟩:=ry;exact PySem.EqMixed.ne_str_int (fin_bl I q (by simp))
  | str j=>obtain ⟨t',rfl⟩:=ry;exact ne_str (fin_bl I q (congrArg not dec_str))
  | _=>exact absurd (show false=true from hs) Bool.false_ne_true
 | byt i =>
  obtain ⟨t,rfl⟩:=rx
  cases y with
  | byt j=>obtain ⟨t',rfl⟩:=ry;exact PySem.W.ne_bytes (fin_bl I q (congrArg not dec_byt))
  | _=>exact absurd (show false=true from hs) Bool.false_ne_true
 | _=>cases y <;> exact absurd (show false=true from hs) Bool.false_ne_true
theorem op_lt:OpR X (compareOp .Lt) (rI0 fun i j=>.bl (decide (i<j))):=opB0 fun _ _ _ _ _ _ _ q=>lt_int q
theorem op_le:OpR X (compareOp .LtE) (rI0 fun i j=>.bl (decide (i≤j))):=opB0 fun _ _ _ _ _ _ _ q=>le_int q
theorem op_gt:OpR X (compareOp .Gt) (rI0 fun i j=>.bl (decide (j<i))):=opB0 fun _ _ _ _ _ _ _ q=>gt_int q
theorem op_ge:OpR X (compareOp .GtE) (rI0 fun i j=>.bl (decide (j≤i))):=opB0 fun _ _ _ _ _ _ _ q=>ge_int q
theorem op_notN:OpR X (compareOp .IsNot) (fun x y H Q=>y=.non∧Q (.bl (!decide (x=.non))) H):=by
 intro pins s σ H x y v u Q I rx ry h
 obtain ⟨rfl,q⟩:=h
 cases ry
 refine isnot_none_gen (fin_bl I q ?_)
 cases x <;> first
  | (cases rx;rfl)
  | (obtain ⟨t,rfl⟩:=rx;rfl)
theorem nomark(b:Expr){op:CmpOp}(h:op≠.In:=by decide)(h2:op≠.NotIn:=by decide):behindInMarks op b=false:=by
 have e1:(op==CmpOp.In)=false:=by cases op <;> first | rfl | exact absurd rfl h
 have e2:(op==CmpOp.NotIn)=false:=by cases op <;> first | rfl | exact absurd rfl h2
 cases b <;> simp [behindInMarks,e1,e2]
theorem pe_cmpR{op:CmpOp}{r:R2}(ho:OpR X (compareOp op) r)(ha:PE X a ta)(hb:PE X b tb)(hm:behindInMarks op b=false):PE X (.Compare a [op] [b] pos) (tOp r ta tb):=by
 intro pins s σ H Q I h
 exact wpAny_Compare1 (binT ha hb I h fun v u s2 x y H2 I2 rx ry q=>ho pins s2 σ H2 x y v u Q I2 rx ry q) hm
noncomputable def tTest(t:TE):TT:=fun σ H Q=>t σ H fun x H'=>∃ k,x=.bl k∧Q k H'
theorem pt_cmpR{op:CmpOp}{r:R2}(ho:OpR X (compareOp op) r)(ha:PE X a ta)(hb:PE X b tb)(hm:behindInMarks op b=false):PT X (.Compare a [op] [b] pos) (tTest (tOp r ta tb)):=by
 intro pins s σ H Q I h
 refine wpAny_isTrue_Compare1 (thn (ha pins s σ H _ I h) fun v s1 ⟨x,H1,I1,r1,q1⟩=>thn (hb pins s1 σ H1 _ I1 q1) fun u s2 ⟨y,H2,I2,r2,q2⟩ =>
  thn (ho pins s2 σ H2 x y v u _ I2 r1 r2 q2) fun c s3 ⟨z,H3,I3,r3,k,e,q3⟩=>?_) hm
 subst e
 cases r3
 exact wpAny_truthy_bool ⟨H3,I3,q3⟩
noncomputable def tChain(r r':R2)(ta tb tc:TE):TE:=fun σ H Q=>ta σ H fun x H1=>tb σ H1 fun y H2=>r x y H2 fun z H3=>∃ k,z=.bl k∧
 (if k=true then tc σ H3 fun w' H4=>r' y w' H4 Q else Q (.bl false) H3)
theorem pe_chain{op op':CmpOp}{r r':R2}(ho:OpR X (compareOp op) r)(ho':OpR X (compareOp op') r')(ha:PE X a ta)(hb:PE X b tb)(hc:PE X c tc)
  (hm:lastMarks [op,op'] [b,c]=false:=by with_unfolding_all rfl):PE X (.Compare a [op,op'] [b,c] pos) (tChain r r' ta tb tc):=by
 intro pins s σ H Q I h
 refine Compare_chain (thn (ha pins s σ H _ I h) fun v s1 ⟨x,H1,I1,r1,q1⟩=>chain_link (thn (hb pins s1 σ H1 _ I1 q1) fun u s2 ⟨y,H2,I2,r2,q2⟩ =>
  thn (ho pins s2 σ H2 x y v u _ I2 r1 r2 q2) fun d s3 ⟨z,H3,I3,r3,k,e,q3⟩=>?_)) hm
 subst e
 cases r3
 refine wpAny_truthy_bool ?_
 cases k with
 | false=>exact ite_ff ⟨.bl false,H3,I3,rfl,q3⟩
 | true=>exact ite_tt (chain_last (thn (hc pins s3 σ H3 _ I3 q3) fun w' s4 ⟨z',H4,I4,r4,q4⟩=>ho' pins s4 σ H4 y z' u w' Q I4 r2 r4 q4))
theorem pt_chain{op op':CmpOp}{r r':R2}(ho:OpR X (compareOp op) r)(ho':OpR X (compareOp op') r')(ha:PE X a ta)(hb:PE X b tb)(hc:PE X c tc)
  (hm:lastMarks [op,op'] [b,c]=false:=by with_unfolding_all rfl):PT X (.Compare a [op,op'] [b,c] pos) (tTest (tChain r r' ta tb tc)):=by
 intro pins s σ H Q I h
 refine isTrue_chain (thn (ha pins s σ H _ I h) fun v s1 ⟨x,H1,I1,r1,q1⟩=>test_link (thn (hb pins s1 σ H1 _ I1 q1) fun u s2 ⟨y,H2,I2,r2,q2⟩ =>
  thn (ho pins s2 σ H2 x y v u _ I2 r1 r2 q2) fun d s3 ⟨z,H3,I3,r3,k,e,q3⟩=>?_)) hm
 subst e
 cases r3
 refine wpAny_truthy_bool ?_
 cases k with
 | false =>
  obtain ⟨k',e',q'⟩:=q3
  cases e'
  exact ite_ff ⟨H3,I3,q'⟩
 | true =>
  refine ite_tt (test_last (thn (hc pins s3 σ H3 _ I3 q3) fun w' s4 ⟨z',H4,I4,r4,q4⟩=>thn (ho' pins s4 σ H4 y z' u w' _ I4 r2 r4 q4) fun d' s5 ⟨z2,H5,I5,r5,k2,e2,q5⟩=>?_))
  subst e2
  cases r5
  exact wpAny_truthy_bool ⟨H5,I5,q5⟩
theorem line63:(sizeLine:Nat)<2 ^ 63:=by rw [sizeLine_eq];decide
theorem vals1{x:V}{us:List Value}(r:Vals [x] us):∃ u,us=[u]∧RelV x u:=by
 cases r with
 | cons r1 r2=>cases r2;exact ⟨_,rfl,r1⟩
theorem vals2{x y:V}{us:List Value}(r:Vals [x,y] us):∃ u w',us=[u,w']∧RelV x u∧RelV y w':=by
 cases r with
 | cons r1 r2 =>
  cases r2 with
  | cons r3 r4=>cases r4;exact ⟨_,_,rfl,r1,r3⟩
theorem call_abs:CallR X (.builtin "abs") (fun xs H Q=>∃ i,xs=[.int i]∧Q (.int (if i<0 then -i else i)) H):=by
 intro pins s σ H xs us Q I r h
 obtain ⟨i,rfl,q⟩:=h
 obtain ⟨u,rfl,t,rfl⟩:=vals1 r
 exact call_abs_int fun u tk=>⟨.int (if i<0 then -i else i),H,I.tok _,⟨_,rfl⟩,q⟩
theorem call_min2(hc:X.calm=true):CallR X (.builtin "min") (fun xs H Q=>∃ i j,xs=[.int i,.int j]∧Q (.int (if j<i then j else i)) H):=by
 intro pins s σ H xs us Q I r h
 obtain ⟨i,j,rfl,q⟩:=h
 obtain ⟨u,w',rfl,⟨t,rfl⟩,⟨t',rfl⟩⟩:=vals2 r
 refine min_two_ints (I.ok.hd hc) fun h' tk k=>⟨_,H,I.kept k,?_,q⟩
 by_cases hj:j<i
 ·rw [if_pos hj,if_pos hj];exact ⟨_,rfl⟩
 ·rw [if_neg hj,if_neg hj];exact ⟨_,rfl⟩
end
end L2
namespace L2
open PySem PySem.Spec PyProof.Rows
structure ObjM(h:Heap)(x dx C:Addr)(mA:Str→Option Value):Prop where
 obj:h.get? x=some (PySem.W.instObj C dx)
 ns:h.Ns1 dx mA
 ne:dx≠x
theorem lookIn_ns{h:Heap}{dx:Addr}{mA:Str→Option Value}(n:h.Ns1 dx mA):∃ od,h.get? dx=some od∧∀ name,PySem.W.lookIn name od=some (mA name):=by
 obtain ⟨o,es,ep,ho,hd,hk,_,hm⟩:=n
 refine ⟨o,ho,fun name=>?_⟩
 have e:=hm name
 unfold nsFind findBy at e
 rw [← Array.find?_toList] at e
 unfold PySem.W.lookIn
 rw [hd]
 dsimp only
 split
 ·rename_i y q
  rw [q] at e
  exact congrArg some e
 ·rename_i q
  rw [q] at e
  have a:es.toList.any (·.refKey)=false:=by
   rw [List.any_eq_false]
   intro y hy
   obtain ⟨z,t,hkey⟩:=hk y (Array.mem_toList_iff.mp hy)
   simp [DictEntry.refKey,hkey]
  have a':¬ es.toList.any (·.refKey)=true:=by rw [a];exact Bool.false_ne_true
  rw [if_neg a']
  exact congrArg some e
theorem ObjM.look{h:Heap}{x dx C:Addr}{mA:Str→Option Value}(I:ObjM h x dx C mA):∃ od,PySem.W.InstAt h x (PySem.W.instObj C dx) C (some od)∧∀ name,PySem.W.lookIn name od=some (mA name) :=
 let ⟨od,ho,hl⟩:=lookIn_ns I.ns
 ⟨od,⟨I.obj,rfl,rfl,ho⟩,hl⟩
section
variable{prog:Program}{w:World}{A:Around}{E:Value→Shared→Prop}{s:Shared}{K:PySem.W.Frag}{x dx C f:Addr}{mA:Str→Option Value}{name:Str}{v:Value}
end
theorem RelO.some_of{v:V}{o:Option Value}(r:RelO (some v) o):∃ u,o=some u∧RelV v u:=by
 cases o with
 | none=>exact (show False from r).elim
 | some u=>exact ⟨u,rfl,r⟩
section
variable{P:Program}{w:World}{H H':Hp}{h h':Heap}{a C dx:Addr}{fs fs':List (Str×V)}
theorem ins_get(hok:HOk P w H h)(e:H a=some (.ins C dx fs)):∃ mA,ObjM h a dx C mA∧(∀ f,RelO (fs.lookup f) (mA f))∧PySem.Within mA (fs.map (·.1))∧fs.length≤1000∧H dx=some (.own a):=by
 obtain ⟨d,z,ne,ob,mA,n,r,q⟩:=(show ObjOk P w H h a (.ins C dx fs) from hok a _ e)
 exact ⟨mA,⟨ob,n,ne⟩,r,q,z,d⟩
end
structure Cls(K:PySem.W.Frag)(C:Addr):Prop where
 pg:PySem.W.plainGet K C Str.empty=true
 hd:PySem.W.hasDictIn K C=true
 po:PySem.W.plainOver K C=true
 sa:PySem.W.findIn K (.ref C) "__setattr__"=some (some (.builtin "object.__setattr__"))
theorem Cls.get{K:PySem.W.Frag}{C:Addr}(c:Cls K C)(f:Str):PySem.W.plainGet K C f=true:=c.pg
section
variable{X:Cx}{pins:List (Addr×Obj)}{σ:St}{H:Hp}{s:Shared}{a C dx:Addr}{fs:List (Str×V)}{f:Str}{v:V}{A:Around}{E:Value→Shared→Prop}
end
section
variable{X:Cx}{o e value:Expr}{f:Str}{pos pos' tpos:Pos}{ta tv:TE}
end
section
variable{X:Cx}{pins:List (Addr×Obj)}{σ:St}{H:Hp}{s:Shared}{A:Around}{E:Value→Shared→Prop}{Q:Value→Shared→Prop}{c:Value}{b:Bool}
inductive TyOf(K:PySem.W.Frag)(H:Hp):V→Value→Prop where
 | non:TyOf K H .non (.type "NoneType")
 | bl (x:Bool):TyOf K H (.bl x) (.type "bool")
 | int (i:Int):TyOf K H (.int i) (.type "int")
 | str (x:Str):TyOf K H (.str x) (.type "str")
 | flt (x:UInt64):TyOf K H (.flt x) (.type "float")
 | lst {a:Addr} {xs:List V} (e:H a=some (.lst xs)):TyOf K H (.ref a) (.type "list")
 | frz {a:Addr} {o:Obj} {xs:List V} (e:H a=some (.frz o (.lst xs))):TyOf K H (.ref a) (.type "list")
 | tup {a:Addr} {xs:List V} (e:H a=some (.tup xs)):TyOf K H (.ref a) (.type "tuple")
 | dK {a:Addr} {kvs:List (Key×V)} (e:H a=some (.dK kvs)):TyOf K H (.ref a) (.type "dict")
 | dT {a:Addr} {kvs:List (List Key×V)} (e:H a=some (.dT kvs)):TyOf K H (.ref a) (.type "dict")
 | ins {a C dx:Addr} {fs:List (Str×V)} (e:H a=some (.ins C dx fs)) (cl:Cls K C) (ha:PySem.W.findIn K (.ref C) "__class__"=some (some (.builtin "object.__class__")))
   (hn:PySem.W.specialIn K (.builtin "object.__class__") "__get__"=some (some (.builtin "getset_descriptor.__get__"))) (htk:PySem.W.takesIn K (.builtin "object.__class__")=some true)
   (hm:PySem.W.mroIn K C (.type "object")=some true):TyOf K H (.ref a) (.ref C)
theorem isinst_ok{x:V}{u t:Value}(I:Inv X pins σ H s)(rx:RelV x u)(ty:TyOf X.K H x t)(e:PySem.W.kitOne X.K t c=some b)(h:∀ tk,Q (.bool b) {s with toks:=tk}) :
  wpAny (model X.prog X.w) A (call (.builtin "isinstance") [u,c]) Q E s:=by
 cases ty with
 | non=>cases (show u=Value.none from rx);exact PySem.W.kia_one PySem.W.kitx_none I.kIn True.intro e (fun z=>nomatch z) h
 | bl y=>cases (show u=Value.bool y from rx);exact PySem.W.kia_one PySem.W.kitx_bool I.kIn True.intro e (fun z=>nomatch z) h
 | int i=>obtain ⟨t,q⟩:=(show ∃ t,u=Value.int i t from rx);cases q;exact PySem.W.kia_one PySem.W.kitx_int I.kIn True.intro e (fun z=>nomatch z) h
 | str y=>obtain ⟨t,q⟩:=(show ∃ t,u=Value.str y t from rx);cases q;exact PySem.W.kia_one PySem.W.kitx_str I.kIn True.intro e (fun z=>nomatch z) h
 | flt y=>obtain ⟨t,q⟩:=(show ∃ t,u=Value.float y t from rx);cases q;exact PySem.W.kia_one PySem.W.kitx_float I.kIn True.intro e (fun z=>nomatch z) h
 | @lst a xs ea =>
  cases (show u=Value.ref a from rx)
  obtain ⟨_,_,n,_,h1⟩:=(show ObjOk X.prog X.w H s.heap a (.lst xs) from I.hok a _ ea)
  exact PySem.W.kia_one PySem.W.kitx_list I.kIn ⟨_,h1,rfl⟩ e (fun z=>nomatch z) h
 | @frz a ob xs ea =>
  cases (show u=Value.ref a from rx)
  obtain ⟨_,_,_,n,_,h1⟩:=(show ObjOk X.prog X.w H s.heap a (.frz ob (.lst xs)) from I.hok a _ ea)
  exact PySem.W.kia_one PySem.W.kitx_list I.kIn ⟨_,h1,rfl⟩ e (fun z=>nomatch z) h
 | @tup a xs ea =>
  cases (show u=Value.ref a from rx)
  obtain ⟨_,_,_,p⟩:=(show ObjOk X.prog X.w H s.heap a (.tup xs) from I.hok a _ ea)
  obtain ⟨o,h1,h2,_⟩:=p
  exact PySem.W.kia_one PySem.W.kitx_tuple I.kIn ⟨o,h1,h2⟩ e (fun z=>nomatch z) h
 | @dK a kvs ea =>
  cases (show u=Value.ref a from rx)
  obtain ⟨_,_,vs,_,p⟩:=(show ObjOk X.prog X.w H s.heap a (.dK kvs) from I.hok a _ ea)
  obtain ⟨o,es,ep,h1,h2,_⟩:=p
  exact PySem.W.kia_one PySem.W.kitx_dict I.kIn ⟨o,h1,h2.1⟩ e (fun z=>nomatch z) h
 | @dT a kvs ea =>
  cases (show u=Value.ref a from rx)
  obtain ⟨_,_,xs,_,o,es,ep,h1,h2,_⟩:=(show ObjOk X.prog X.w H s.heap a (.dT kvs) from I.hok a _ ea)
  exact PySem.W.kia_one PySem.W.kitx_dict I.kIn ⟨o,h1,h2.1⟩ e (fun z=>nomatch z) h
 | @ins a C dx fs ea cl ha hn htk hm =>
  cases (show u=Value.ref a from rx)
  obtain ⟨mA,O,_⟩:=ins_get I.hok ea
  obtain ⟨od,J,_⟩:=O.look
  exact PySem.W.kia_one (PySem.W.kitx_own (cl.get _) cl.hd ha hn htk hm) I.kIn J e (fun z=>nomatch z) h
end
end L2
namespace L2
open PySem PySem.Spec PyProof.Rows
structure Room(k:Nat)(A:Around):Prop where
 hd:A.handled=none
 dp:A.depth+3*k+5<recursionLimit
 un:A.units+16*k+200<cLine
 gd:A.guards=some []
theorem Room.mono{j k:Nat}{A:Around}(r:Room k A)(h:j≤k):Room j A:=⟨r.hd,by have:=r.dp;omega,by have:=r.un;omega,r.gd⟩
theorem Room.deeper{k:Nat}{A:Around}(r:Room (k+1) A)(env:Env):Room k (A.deeper env) :=
 ⟨r.hd,by have:=r.dp;show A.depth+1+3*k+5<_;omega,by have:=r.un;show A.units+3+16*k+200<_;omega,r.gd⟩
theorem Room.depth{k:Nat}{A:Around}(r:Room k A):A.depth<recursionLimit:=by have:=r.dp;omega
theorem Room.units{k:Nat}{A:Around}(r:Room k A):A.units+64<cLine:=by have:=r.un;omega
noncomputable def tNil:TA:=fun _ H Q=>Q [] H
noncomputable def tCons(ta:TE)(tr:TA):TA:=fun σ H Q=>ta σ H fun x H1=>tr σ H1 fun xs H2=>Q (x::xs) H2
section
variable{X:Cx}{e:Expr}{es:List Expr}{te:TE}{t:TA}{pos:Pos}
theorem pa_nil:PA X [] tNil:=fun _ _ _ _ H Q I h=>Calls.spliced_nil ⟨[],H,I,.nil,h⟩
theorem pa_cons(ha:PE X e te)(hr:PA X es t)(hs:starEach (e::es) X.env=(false,eval e X.env)::starEach es X.env:=by rfl):PA X (e::es) (tCons te t):=by
 intro pos pins s σ H Q I h
 rw [hs]
 show wpAny _ _ (spliced ((false,eval e X.env)::backTo pos (starEach es X.env))) _ _ s
 refine Calls.spliced_cons (thn (ha pins s σ H _ I h) fun u s1 ⟨x,H1,I1,r1,q1⟩=>?_)
 exact thn (hr pos pins s1 σ H1 _ I1 q1) fun us s2 ⟨xs,H2,I2,r2,q2⟩=>⟨x::xs,H2,I2,.cons r1 r2,q2⟩
noncomputable def tTup(t:TA):TE:=fun σ H Q=>t σ H fun xs H1=>xs.length≤sizeLine∧∀ p,H1 p=none→Q (.ref p) (upd H1 p (.tup xs))
noncomputable def tLst(t:TA):TE:=fun σ H Q=>t σ H fun xs H1=>xs.length≤sizeLine∧∀ p,H1 p=none→Q (.ref p) (upd H1 p (.lst xs))
theorem pe_tup{x1}(h:PA X es t):PE X (.Tuple es x1 pos) (tTup t):=by
 intro pins s σ H Q I hq
 refine wpAny_Tuple_spliced (thn (h pos pins s σ H _ I hq) fun us s1 ⟨xs,H1,I1,r,z,q⟩=>⟨by rw [← r.length];exact z,?_⟩)
 have hf:H1 s1.heap.objs.size=none:=I1.hok.fresh (Nat.le_refl _)
 refine ⟨.ref s1.heap.objs.size,upd H1 s1.heap.objs.size (.tup xs),I1.laid (t':=s1.toks) (fun b u e=>Heap.get?_push_of_some _ e) (Nat.le_refl _) ?_,rfl,q _ hf⟩
 exact ⟨z,us,r,⟨_,Heap.get?_push_size _ rfl,rfl,_,rfl⟩⟩
theorem pe_lst(h:PA X es t):PE X (.List es pos) (tLst t):=by
 intro pins s σ H Q I hq
 refine wpAny_List_spliced (thn (h pos pins s σ H _ I hq) fun us s1 ⟨xs,H1,I1,r,z,q⟩=>⟨by rw [← r.length];exact z,?_⟩)
 have hf:H1 s1.heap.objs.size=none:=I1.hok.fresh (Nat.le_refl _)
 refine ⟨.ref s1.heap.objs.size,upd H1 s1.heap.objs.size (.lst xs),I1.laid (t':=s1.toks) (fun b u e=>Heap.get?_push_of_some _ e) (Nat.le_refl _) ?_,rfl,q _ hf⟩
 exact ⟨z,us,0,r,Heap.get?_push_size _ rfl⟩
end
noncomputable abbrev Sp:=List V→Hp→VK→XK→Prop
noncomputable abbrev CXT:=List Env→Hp→Shared→XK→Value→Shared→Prop
structure Env0(P:Program)(w:World)(K:PySem.W.Frag)(mg:Str→Option Value)(base:Heap)(A:Around)(outer:List Env)(s:Shared)(H:Hp):Prop where
 frames:A.frames=some outer
 mod:Mod K mg base
 bs:∀ b o,base.get? b=some o→s.heap.get? b=some o∧H b=none
 bsz:base.objs.size≤s.heap.objs.size
 funs:s.heap.FunFrames base outer
 frf:∀ b∈frs outer,H b=none
 hok:HOk P w H s.heap
 bare:AllBare s.gens
noncomputable def CE(outer:List Env)(P:Program)(w:World)(H:Hp)(s:Shared)(Q:VK)(u:Value)(s':Shared):Prop :=
 ∃ v H',s'.os=s.os∧AllBare s'.gens∧Un (frs outer) [] H H' s.heap s'.heap∧HOk P w H' s'.heap∧RelV v u∧Q v H'
noncomputable def CR(CX:CXT)(outer:List Env)(P:Program)(w:World)(H:Hp)(s:Shared)(Q:VK)(E:XK)(r:Result)(s':Shared):Prop :=
 match r with
 | .ok (.ret u)=>CE outer P w H s Q u s'
 | .ok _=>False
 | .error e=>CX outer H s E e s'
structure FnOk(P:Program)(w:World)(K:PySem.W.Frag)(mg:Str→Option Value)(base:Heap)(CX:CXT)(k:Nat)(f:Addr)(fd:FuncData)(ps:List Str)(sp:Sp):Prop where
 len:∀ vs H Q E,sp vs H Q E→vs.length=ps.length
 run:∀ (A:Around) (outer:List Env) (s:Shared) (H:Hp) (args:Args) (us:List Value) (vs:List V) (Q:VK) (E:XK),Room k A→Env0 P w K mg base A outer s H→BindsTo s fd args (ps.zip us)→Vals vs us→sp vs H Q E→
  codeAny (model P w) A (.call (.ref f) args) (CR CX outer P w H s Q E) s
section
variable{X:Cx}{pins:List (Addr×Obj)}{σ:St}{H:Hp}{s s':Shared}
theorem Inv.env0(I:Inv X pins σ H s):Env0 X.prog X.w X.K X.mg X.base X.A X.stack s H :=
 ⟨I.ok.frames,I.ok.mod,I.bs,Nat.le_trans I.ok.bsz I.sz,I.stack,I.stkFree,I.hok,I.bare⟩
theorem Inv.after{Q:VK}{u:Value}(I:Inv X pins σ H s)(h:CE X.stack X.prog X.w H s Q u s'):EP X pins σ Q u s':=by
 obtain ⟨v,H',os,bare,un,hok,r,q⟩:=h
 obtain ⟨hh,g,d,t,os'⟩:=s'
 obtain rfl:os'=s.os:=os
 exact ⟨v,H',I.call (h':=hh) (g':=g) (d':=d) (t':=t) (ch:=[]) un hok bare (fun b z=>absurd z (by simp)),r,q⟩
end
noncomputable def tCall(sp:Sp)(dvs:List V)(E:XK)(t:TA):TE:=fun σ H Q=>t σ H fun vs H1=>sp (vs++dvs) H1 Q E
noncomputable def Binds(K:PySem.W.Frag)(fd:FuncData)(ps:List Str)(ds:List Value):Prop :=
 ∀ (s:Shared) (us:List Value),K.In s.heap→(us++ds).length=ps.length→BindsTo s fd ⟨us,[]⟩ (ps.zip (us++ds))
theorem Binds.all{K:PySem.W.Frag}{fd:FuncData}{ps:List Str}(h:∀ us:List Value,us.length=ps.length→bindArgs fd ⟨us,[]⟩=pure (ps.zip us)):Binds K fd ps []:=fun s us _ hl=>by
 rw [List.append_nil] at hl⊢
 exact .of_eq (h us hl)
noncomputable def Passes(CX:CXT)(X:Cx)(E:XK):Prop:=∀ (pins:List (Addr×Obj)) (σ:St) (H:Hp) (s:Shared) (e:Value) (s':Shared),Inv X pins σ H s→CX X.stack H s E e s'→X.xe e s'
section
variable{X:Cx}{CX:CXT}{k:Nat}{f C:Addr}{fd:FuncData}{ps:List Str}{sp:Sp}{dvs:List V}{ds:List Value}{E:XK}{x m:Str}{p pos apos:Pos}{e o:Expr}{es:List Expr}{ta:TE}{t:TA}
theorem run_fn{pins:List (Addr×Obj)}{σ:St}{H:Hp}{s:Shared}{Q:VK}{us:List Value}{vs:List V}(F:FnOk X.prog X.w X.K X.mg X.base CX k f fd ps sp)(hr:Room k X.A)(hb:Binds X.K fd ps ds)(hd:Vals dvs ds)(hx:Passes CX X E)
  (I:Inv X pins σ H s) (r:Vals vs us) (h:sp (vs++dvs) H Q E):wpAny (model X.prog X.w) X.A (call (.ref f) us) (EP X pins σ Q) X.xe s:=by
 have r2:Vals (vs++dvs) (us++ds):=r.append hd
 have hl:(us++ds).length=ps.length:=by rw [← r2.length];exact F.len _ _ _ _ h
 refine wpAny_call (codeAny_mono (F.run X.A X.stack s H ⟨us,[]⟩ (us++ds) (vs++dvs) Q E hr I.env0 (hb s us I.kIn hl) r2 h) fun r s' hq=>?_)
 cases r with
 | error e=>exact hx pins σ H s e s' I hq
 | ok fl =>
  cases fl with
  | ret u=>exact I.after hq
  | next=>exact False.elim hq
  | brk=>exact False.elim hq
  | cont=>exact False.elim hq
theorem pe_call(F:FnOk X.prog X.w X.K X.mg X.base CX k f fd ps sp)(hr:Room k X.A)(hg:Gl X x)(hm:X.mg x=some (.ref f))(hk:PySem.W.keepIn X.K (.ref f)=true)(hb:Binds X.K fd ps ds)(hd:Vals dvs ds)(hx:Passes CX X E)
  (ha:PA X (e::es) t) (hdb:(x==("__debug__":Str))=false:=by decide) (he:starEach (e::es) X.env=(false,eval e X.env)::starEach es X.env:=by rfl) (hpl:(backTo pos (starEach es X.env)).any (·.1)=false:=by rfl) :
  PE X (.Call (.Name x p) (e::es) [] pos) (tCall sp dvs E t):=by
 intro pins s σ H Q I h
 refine wpAny_Call_Name_kw (ld_glob I hg hm ?_ hdb)
 refine PySem.W.callWith_K (h₀:=X.base) I.ok.mod.kin hk (thn (ha pos pins s σ H _ I h) fun us s1 ⟨vs,H1,I1,r,q⟩=>⟨I1.kIn,?_⟩) he hpl
 exact run_fn F hr hb hd hx I1 r q
end
section
variable{X:Cx}{CX:CXT}{k:Nat}{f C:Addr}{fd:FuncData}{ps ks:List Str}{sp:Sp}{E:XK}{x m:Str}{p pos apos kpos:Pos}{e o:Expr}{es:List Expr}{kws:List Keyword}{te ta:TE}{t tk:TA}{nm:Option Str}
variable{g:List Value→List Value→List Value}{gV:List V→List V→List V}
end
structure FnScope(N P:List Str)(sc:Scope):Prop where
 kind:sc.kind=.function
 co:sc.isCoroutine=false
 gen:sc.isGenerator=false
 nd:N.Nodup
 pre:N.take P.length=P
 par:∀ x∈P,sc.names.lookup x=some .local∨sc.names.lookup x=some .cell
 nofree:∀ y∈sc.names,y.2≠.free
theorem bindL_out{kindOf:Str→Option NameKind}{x:Str}:∀ {binds:List (Str×Value)} {m:Str→Option Value},(∀ v,(x,v)∉binds)→bindL kindOf binds m x=m x
 | [],_,_=>rfl
 | (n,v)::r,m,h=>by
  unfold bindL
  rw [bindL_out fun w hw=>h w (List.mem_cons_of_mem _ hw)]
  split
  ·have:x≠n:=by rintro rfl;exact h v List.mem_cons_self
   simp [this]
  ·rfl
theorem bindC_out{kindOf:Str→Option NameKind}{x:Str}:∀ {binds:List (Str×Value)} {m:Str→Option Value},(∀ v,(x,v)∉binds)→bindC kindOf binds m x=m x
 | [],_,_=>rfl
 | (n,v)::r,m,h=>by
  unfold bindC
  rw [bindC_out fun w hw=>h w (List.mem_cons_of_mem _ hw)]
  split
  ·rfl
  ·have:x≠n:=by rintro rfl;exact h v List.mem_cons_self
   simp [this]
theorem bindL_get{kindOf:Str→Option NameKind}{x:Str}{v:Value}:∀ {P:List Str} {vs:List Value} {i:Nat} {m:Str→Option Value},P.Nodup→P[i]?=some x→vs[i]?=some v→kindOf x=some .local→
  bindL kindOf (P.zip vs) m x=some v
 | [],_,_,_,_,h,_,_=>by simp at h
 | _::_,[],_,_,_,_,h,_=>by simp at h
 | p::P,w::vs,0,m,nd,h1,h2,hk=>by
  simp at h1 h2;subst h1;subst h2
  show bindL kindOf ((p,w)::P.zip vs) m p=_
  unfold bindL
  rw [bindL_out fun v hv=>(List.nodup_cons.mp nd).1 (List.of_mem_zip hv).1,if_pos hk]
  simp
 | p::P,w::vs,i+1,m,nd,h1,h2,hk=>by
  show bindL kindOf ((p,w)::P.zip vs) m x=_
  unfold bindL
  exact bindL_get (i:=i) (List.nodup_cons.mp nd).2 (by simpa using h1) (by simpa using h2) hk
theorem bindC_get{kindOf:Str→Option NameKind}{x:Str}{v:Value}:∀ {P:List Str} {vs:List Value} {i:Nat} {m:Str→Option Value},P.Nodup→P[i]?=some x→vs[i]?=some v→kindOf x≠some .local→
  bindC kindOf (P.zip vs) m x=some v
 | [],_,_,_,_,h,_,_=>by simp at h
 | _::_,[],_,_,_,_,h,_=>by simp at h
 | p::P,w::vs,0,m,nd,h1,h2,hk=>by
  simp at h1 h2;subst h1;subst h2
  show bindC kindOf ((p,w)::P.zip vs) m p=_
  unfold bindC
  rw [bindC_out fun v hv=>(List.nodup_cons.mp nd).1 (List.of_mem_zip hv).1,if_neg hk]
  simp
 | p::P,w::vs,i+1,m,nd,h1,h2,hk=>by
  show bindC kindOf ((p,w)::P.zip vs) m x=_
  unfold bindC
  exact bindC_get (i:=i) (List.nodup_cons.mp nd).2 (by simpa using h1) (by simpa using h2) hk
noncomputable def start(N:List Str)(vs:List V):St:=vs.map some++List.replicate (N.length - vs.length) none
noncomputable def cxOf(CX:CXT)(P:Program)(w:World)(K:PySem.W.Frag)(mg:Str→Option Value)(base:Heap)(N:List Str)(qual:Str)(scope:Scope)(f:Addr)(cd:Value)(A:Around)(outer:List Env)(s:Shared)(H:Hp)(E:XK):Cx where
 prog:=P
 w:=w
 K:=K
 mg:=mg
 base:=base
 A:=A.deeper (envOfC qual scope s.heap.objs.size f cd)
 N:=N
 s₀:=s
 H₀:=H
 env:=envOfC qual scope s.heap.objs.size f cd
 outer:=outer
 stack:=envOfC qual scope s.heap.objs.size f cd::outer
 ex:=[]
 calm:=true
 fn:=fun _=>true
 pn:=[]
 xe:=fun e s'=>wpAny (model P w) (A.deeper (envOfC qual scope s.heap.objs.size f cd)) (leaving (envOfC qual scope s.heap.objs.size f cd) e) (fun _ s''=>CX outer H s E e s'') (fun e' s''=>CX outer H s E e' s'') s'
theorem cell_has{sc:Scope}{n:Nat}{x:Str}(h:sc.names.lookup x=some .cell):∃ c,(cellsFrom n sc.names []).lookup x=some c:=by
 have q:=PySem.W.cellsFrom_some sc.names n [] (.inl h)
 exact Option.isSome_iff_exists.mp q
theorem inv_start{CX:CXT}{P:Program}{w:World}{K:PySem.W.Frag}{mg:Str→Option Value}{base:Heap}{N ps:List Str}{qual:Str}{scope:Scope}{f:Addr}{cd:Value}{A:Around}{outer:List Env}{s s1:Shared}{H:Hp}{E:XK}{us:List Value}{vs:List V}
  (S:FnScope N ps scope) (hd:A.handled=none) (e0:Env0 P w K mg base A outer s H) (hl:vs.length=ps.length) (r:Vals vs us)
  (x:InCallC s s.heap.objs.size (bindL (envOfC qual scope s.heap.objs.size f cd).kindOf (ps.zip us) fun _=>none) (cellsFrom (s.heap.objs.size+1) scope.names []) (bindC (envOfC qual scope s.heap.objs.size f cd).kindOf (ps.zip us) fun _=>none) s1) :
  Inv (cxOf CX P w K mg base N qual scope f cd A outer s H E) [] (start N vs) H s1:=by
 have hpl:ps.length≤N.length:=by have:=congrArg List.length S.pre;rw [List.length_take] at this;omega
 obtain ⟨h1,tk,rfl,hk⟩:=x.done
 have noA:∀ b:Addr,b∉(cxOf CX P w K mg base N qual scope f cd A outer s H E).ex:=fun b z=>absurd (show b∈([]:List Addr) from z) (by simp)
 refine ⟨⟨e0.mod,S.kind,rfl,rfl,Nat.le_refl _,fun y z c h1 h2=>?_,fun y hy=>?_,fun y c _ h=>?_,fun _=>hd,Around.frames_deeper e0.frames,.inr ⟨rfl,rfl⟩,fun b z=>absurd z (noA b),e0.bs,e0.bsz,fun b _ _=>noA b,fun b z=>absurd z (noA b),e0.funs,e0.frf⟩,
  rfl,e0.bare,Un.kept hk,⟨_,x.toInCall.ns,fun i y v h1 h2 h3=>?_⟩,fun y c h=>⟨_,x.cell y c h⟩,e0.hok.fresh (Nat.le_refl _),fun y c h=>?_,fun p hp=>absurd (show p∈([]:List (Addr×Obj)) from hp) (by simp),e0.hok.kept hk,?_⟩
 ·exact name_of_addr x.apart (PySem.mem_of_lookup h1) (PySem.mem_of_lookup h2)
 ·have hy:scope.names.lookup y=some .cell∨scope.names.lookup y=some .free:=hy
  rcases hy with hy | hy
  ·exact cell_has hy
  ·exact absurd rfl (S.nofree _ (PySem.mem_of_lookup hy))
 ·exact Nat.le_of_lt (x.above y c (PySem.mem_of_lookup h))
 ·have hi:i<vs.length:=by
   unfold start at h2
   by_cases hi:i<vs.length
   ·exact hi
   ·rw [List.getElem?_append_right (by simpa using hi)] at h2
    rw [List.getElem?_replicate] at h2
    split at h2 <;> cases h2
  have ha:vs[i]?=some v:=by
   unfold start at h2
   rw [List.getElem?_append_left (by simpa using hi),List.getElem?_map] at h2
   cases e:vs[i]? with
   | none=>rw [e] at h2;cases h2
   | some a=>rw [e] at h2;cases h2;rfl
  obtain ⟨u,hu,rv⟩:=r.get ha
  have hp:ps[i]?=some y:=by
   rw [← S.pre,List.getElem?_take_of_lt (by omega)];exact h1
  have ndP:ps.Nodup:=by rw [← S.pre];exact S.nd.sublist (List.take_sublist _ _)
  refine ⟨u,rv,?_⟩
  rcases S.par y (List.mem_of_getElem? hp) with k | k
  ·exact .inl ⟨k,bindL_get ndP hp hu k⟩
  ·obtain ⟨c,e⟩:=cell_has (n:=s.heap.objs.size+1) k
   refine .inr ⟨.inl k,c,e,?_⟩
   have q:=x.cell y c e
   rw [bindC_get ndP hp hu (by show scope.names.lookup y≠_;rw [k];decide)] at q
   exact q
 ·exact e0.hok.fresh (Nat.le_of_lt (x.above y c (PySem.mem_of_lookup h)))
 ·unfold start
  show _=N.length
  rw [List.length_append,List.length_map,List.length_replicate]
  omega
theorem fn_of{CX:CXT}{P:Program}{w:World}{K:PySem.W.Frag}{mg:Str→Option Value}{base:Heap}{k:Nat}{f:Addr}{name qual:Str}{params:Arguments}{body:List Stmt}{scope:Scope}{dV kV doc pm cdv ct oc:Value}{an od:Option Addr}
  {osl:Array (Option Value)} {N ps:List Str} {sp:Sp} (lk:K.lookup f=some ⟨oc,od,.func (PySem.W.fnOf name qual params body scope dV kV doc pm an cdv ct),osl⟩) (hcd:PySem.W.codeIn K cdv qual=true) (S:FnScope N ps scope)
  (len:∀ vs H Q E,sp vs H Q E→vs.length=ps.length)
  (hbody:∀ (A:Around) (outer:List Env) (s:Shared) (H:Hp) (vs:List V) (Q:VK) (E:XK),Room k (A.deeper (envOfC qual scope s.heap.objs.size f cdv))→sp vs H Q E→
   ∃ t,PSs (cxOf CX P w K mg base N qual scope f cdv A outer s H E) body t∧t {nx:=fun _ H'=>Q .non H',rt:=Q} (start N vs) H) :
  FnOk P w K mg base CX (k+1) f (PySem.W.fnOf name qual params body scope dV kV doc pm an cdv ct) ps sp:=by
 refine ⟨len,fun A outer s H args us vs Q E hr e0 hb r hsp=>?_⟩
 have hl:=len _ _ _ _ hsp
 have KX:K.In s.heap:=e0.mod.kin.keeps fun b o e=>(e0.bs b o e).1
 have lim:s.heap.NoLimit:=e0.mod.nolimit.keeps fun b o e=>(e0.bs b o e).1
 have hkind:∀ y∈ps.zip us,scope.names.lookup y.1=some .local∨(scope.names.lookup y.1=some .cell∧((cellsFrom (s.heap.objs.size+1) scope.names []).lookup y.1).isSome=true):=fun ⟨n,v⟩ hy=>by
  rcases S.par n (List.of_mem_zip hy).1 with q | q
  ·exact .inl q
  ·exact .inr ⟨q,PySem.W.cellsFrom_some _ _ _ (.inl q)⟩
 refine codeAny_call_function hr.depth (KX _ _ lk) rfl S.co S.gen rfl (PySem.W.codeRec_of KX hcd) (hb _ _ _ _ ?_)
 refine wpAny_newFunctionEnv_cells S.kind hkind fun env he s1 x=>?_
 subst he
 refine ⟨lim.keeps x.toInCall.keep,codeAny_func ?_⟩
 obtain ⟨t,ht,hq⟩:=hbody A outer s H vs Q E (hr.deeper _) hsp
 have I:Inv (cxOf CX P w K mg base N qual scope f cdv A outer s H E) [] (start N vs) H s1:=inv_start S hr.hd e0 hl r x
 refine wpAny_mono (ht [] s1 (start N vs) H _ I hq) (fun fl s' hs=>?_) fun e s' hs=>hs
 have fin:∀ {σ':St} {H':Hp} {v:V} {u:Value},Inv (cxOf CX P w K mg base N qual scope f cdv A outer s H E) [] σ' H' s'→RelV v u→Q v H'→CE outer P w H s Q u s' :=
  fun {σ' H' v u} J rv q=>⟨v,H',J.os,J.bare,J.base,J.hok,rv,q⟩
 cases fl with
 | ret u =>
  obtain ⟨v,σ',H',J,rv,q⟩:=hs
  exact fin J rv q
 | next =>
  obtain ⟨σ',H',J,q⟩:=hs
  exact fin (v:=V.non) (u:=Value.none) J rfl q
 | brk =>
  obtain ⟨_,_,_,q⟩:=hs
  exact False.elim q
 | cont =>
  obtain ⟨_,_,_,q⟩:=hs
  exact False.elim q
end L2
namespace L2
open PySem PySem.Spec PyProof.Rows
section
variable{X:Cx}{x:Str}{p pos:Pos}{e:Expr}{es:List Expr}{t:TA}{id T:String}{r:List V→Hp→VK→Prop}
noncomputable def tCB(r:List V→Hp→VK→Prop)(t:TA):TE:=fun σ H Q=>t σ H fun vs H1=>r vs H1 Q
theorem pe_callB(hc:CallR X (.builtin id) r)(hg:Gl X x)(hm:X.mg x=none)(hv:bootBuiltins x=some (.builtin id))(ha:PA X (e::es) t)(hn:x≠"__name__":=by decide)(hdb:(x==("__debug__":Str))=false:=by decide)
  (he:starEach (e::es) X.env=(false,eval e X.env)::starEach es X.env:=by rfl) (hpl:(backTo pos (starEach es X.env)).any (·.1)=false:=by rfl):PE X (.Call (.Name x p) (e::es) [] pos) (tCB r t):=by
 intro pins s σ H Q I h
 refine wpAny_Call_Name_kw (ld_blt I hg hm hv ?_ hn hdb)
 exact PyProof.Rows.callWith_builtin1 (thn (ha pos pins s σ H _ I h) fun us s1 ⟨vs,H1,I1,r1,q1⟩=>hc pins s1 σ H1 vs us Q I1 r1 q1) he hpl
theorem pe_callTy(hc:CallR X (.type T) r)(hg:Gl X x)(hm:X.mg x=none)(hv:bootBuiltins x=some (.type T))(ha:PA X (e::es) t)(hn:x≠"__name__":=by decide)(hdb:(x==("__debug__":Str))=false:=by decide)
  (he:starEach (e::es) X.env=(false,eval e X.env)::starEach es X.env:=by rfl) (hpl:(backTo pos (starEach es X.env)).any (·.1)=false:=by rfl):PE X (.Call (.Name x p) (e::es) [] pos) (tCB r t):=by
 intro pins s σ H Q I h
 refine wpAny_Call_Name_kw (ld_blt I hg hm hv ?_ hn hdb)
 exact PyProof.Rows.callWith_type1 (thn (ha pos pins s σ H _ I h) fun us s1 ⟨vs,H1,I1,r1,q1⟩=>hc pins s1 σ H1 vs us Q I1 r1 q1) he hpl
end
end L2
namespace HT
open PySem PyProof.Rows
section
open PySem.SeqAt
open PySem.AutoSeq1 (wpAny_loadPart')
open PySem.MeetsSeq PySem.MeetsSeq2 PySem.MeetsSeq3
end
section
variable{prog:Program}{w:World}{A:Around}{E:Value→Shared→Prop}{s:Shared}
noncomputable def sIx(n d:Nat):Option Int→Nat
 | none=>d
 | some v=>if v<0 then (v+(n:Int)).toNat else min v.toNat n
theorem sIx_none(n d:Nat):sIx n d none=d:=rfl
theorem sIx_nat(n d k:Nat):sIx n d (some (k:Int))=min k n:=by
 show (if (k:Int)<0 then ((k:Int)+(n:Int)).toNat else min (k:Int).toNat n)=min k n
 rw [if_neg (by omega),Int.toNat_natCast]
end
end HT
namespace L2
open PySem PySem.Spec PyProof.Rows
noncomputable abbrev TO:=St→Hp→(Option Int→Hp→Prop)→Prop
noncomputable def PO(X:Cx)(e:Option Expr)(t:TO):Prop :=
 ∀ (pins:List (Addr×Obj)) (s:Shared) (σ:St) (H:Hp) (Q:Option Int→Hp→Prop),Inv X pins σ H s→t σ H Q→
  wpAny (model X.prog X.w) X.A (evalPart e X.env) (fun u s'=>∃ o H',Inv X pins σ H' s'∧IsPart u o∧Q o H') X.xe s
noncomputable def tNoPart:TO:=fun _ H Q=>Q none H
noncomputable def tPart(t:TE):TO:=fun σ H Q=>t σ H fun x H1=>∃ i,x=.int i∧Q (some i) H1
section
variable{X:Cx}{e:Expr}{te:TE}{lo hi:Option Expr}{tl th:TO}{pos p2:Pos}
theorem po_none:PO X none tNoPart:=by
 intro pins s σ H Q I h
 rw [evalPart_none]
 exact wpAny_pure ⟨none,H,I,.none,h⟩
theorem po_some(h:PE X e te):PO X (some e) (tPart te):=by
 intro pins s σ H Q I hw
 rw [evalPart_some]
 refine thn (h pins s σ H _ I hw) fun u s1 ⟨x,H1,I1,r1,q1⟩=>?_
 obtain ⟨i,rfl,q⟩:=q1
 obtain ⟨t,rfl⟩:=r1
 exact ⟨some i,H1,I1,.int i t,q⟩
noncomputable def SlR(X:Cx)(r:V→Option Int→Option Int→Hp→VK→Prop):Prop :=
 ∀ (pins:List (Addr×Obj)) (s:Shared) (σ:St) (H:Hp) (x:V) (v vl vu:Value) (lo hi:Option Int) (sl:Addr) (Q:VK),Inv X pins σ H s→RelV x v→s.heap.IsSliceOf sl vl vu .none→IsPart vl lo→IsPart vu hi→r x lo hi H Q→
  ∃ T id,typeLookup (.type T) "__getitem__"=pure (some (.builtin id))∧s.TypeIs v T∧wpAny (model X.prog X.w) X.A (getItem v (.ref sl)) (EP X pins σ Q) X.xe s
noncomputable def tSl(r:V→Option Int→Option Int→Hp→VK→Prop)(te:TE)(tl th:TO):TE:=fun σ H Q=>te σ H fun x H1=>tl σ H1 fun l H2=>th σ H2 fun u H3=>r x l u H3 Q
theorem pe_slice{r:V→Option Int→Option Int→Hp→VK→Prop}(hr:SlR X r)(he:PE X e te)(hl:PO X lo tl)(hu:PO X hi th):PE X (.Subscript e (.Slice lo hi none p2) pos) (tSl r te tl th):=by
 intro pins s σ H Q I h
 refine Subscript_ (thn (he pins s σ H _ I h) fun v s1 ⟨x,H1,I1,r1,q1⟩=>?_)
 refine wpAny_Slice (thn (hl pins s1 σ H1 _ I1 q1) fun vl s2 ⟨l,H2,I2,pl,q2⟩=>thn (hu pins s2 σ H2 _ I2 q2) fun vu s3 ⟨u,H3,I3,pu,q3⟩=>?_)
 rw [evalPart_none]
 refine wpAny_pure ?_
 have I4:Inv X pins σ H3 {s3 with heap:=s3.heap.push {cls:=.type "slice",data:=.fields #[vl,vu,.none]}}:=I3.kept (t':=s3.toks) fun b ob q=>Heap.get?_push_of_some _ q
 obtain ⟨T,id,hT,ht,hg⟩:=hr pins {s3 with heap:=s3.heap.push {cls:=.type "slice",data:=.fields #[vl,vu,.none]}} σ H3 x v vl vu l u s3.heap.objs.size Q I4 r1 (Heap.IsSliceOf.new ..) pl pu q3
 show wpAny (model X.prog X.w) X.A (subscriptTail e (.Slice lo hi none p2) v (.ref s3.heap.objs.size)) (EP X pins σ Q) X.xe {s3 with heap:=s3.heap.push {cls:=.type "slice",data:=.fields #[vl,vu,.none]}}
 exact tail_any (ops:=[.ref s3.heap.objs.size,v]) ht hT hg (by with_unfolding_all rfl)
noncomputable def cutV(xs:List V)(lo hi:Option Int):List V:=(xs.drop (HT.sIx xs.length 0 lo)).take (HT.sIx xs.length xs.length hi - HT.sIx xs.length 0 lo)
theorem cutV_length(xs:List V)(lo hi:Option Int):(cutV xs lo hi).length≤xs.length:=by
 unfold cutV
 rw [List.length_take,List.length_drop]
 omega
end
end L2
namespace L2
open PySem PySem.Spec PyProof.Rows
noncomputable def ixN(n:Nat)(i:Int):Option Nat:=if 0≤i then (if i<n then some i.toNat else none) else if -(n:Int)≤i then some (i+n).toNat else none
noncomputable def atI{α:Type}(xs:List α)(i:Int):Option α:=(ixN xs.length i).bind fun j=>xs[j]?
theorem ixN_seq{n:Nat}{i:Int}{j:Nat}(h:ixN n i=some j):seqIndex? i n=some j∧j<n∧-(n:Int)≤i∧i<n:=by
 unfold ixN at h
 by_cases h0:0≤i
 ·rw [if_pos h0] at h
  by_cases h1:i<n
  ·rw [if_pos h1] at h
   have e:i.toNat=j:=Option.some.inj h
   exact ⟨by rw [seqIndex_of h0 h1,e],by omega,by omega,h1⟩
  ·rw [if_neg h1] at h;cases h
 ·rw [if_neg h0] at h
  by_cases h1 : -(n:Int)≤i
  ·rw [if_pos h1] at h
   have e:(i+n).toNat=j:=Option.some.inj h
   exact ⟨by rw [seqIndex_neg (by omega) h1,e],by omega,h1,by omega⟩
  ·rw [if_neg h1] at h;cases h
theorem atI_get{α:Type}{xs:List α}{i:Int}{v:α}(h:atI xs i=some v):∃ j,seqIndex? i xs.length=some j∧xs[j]?=some v∧j<xs.length∧-(xs.length:Int)≤i∧i<xs.length:=by
 unfold atI at h
 cases e:ixN xs.length i with
 | none=>rw [e] at h;cases h
 | some j =>
  rw [e] at h
  obtain ⟨h1,h2,h3,h4⟩:=ixN_seq e
  exact ⟨j,h1,h,h2,h3,h4⟩
theorem atI_nat{α:Type}{xs:List α}{j:Nat}{v:α}(h:xs[j]?=some v):atI xs (j:Int)=some v:=by
 have hj:j<xs.length:=(List.getElem?_eq_some_iff.mp h).1
 have e:ixN xs.length (j:Int)=some j:=by
  unfold ixN
  rw [if_pos (by omega),if_pos (by omega)];simp
 unfold atI;rw [e];exact h
noncomputable def PlainIx(b:Expr):Prop:=∀ o i,subscripted b false o i=operate [o,i] (getItem o i)
noncomputable def IxR(X:Cx)(r:R2):Prop :=
 ∀ (value slice:Expr) (pins:List (Addr×Obj)) (s:Shared) (σ:St) (H:Hp) (x y:V) (v u:Value) (Q:VK),Inv X pins σ H s→RelV x v→RelV y u→r x y H Q→
  subscripted slice false v u=operate [v,u] (getItem v u)→wpAny (model X.prog X.w) X.A (subscriptTail value slice v u) (EP X pins σ Q) X.xe s
noncomputable def MtR(X:Cx)(id:String)(r:V→List V→Hp→VK→Prop):Prop :=
 ∀ (pins:List (Addr×Obj)) (s:Shared) (σ:St) (H:Hp) (x:V) (xs:List V) (v:Value) (us:List Value) (Q:VK),Inv X pins σ H s→RelV x v→Vals xs us→r x xs H Q→
  wpAny (model X.prog X.w) X.A (call (.builtin id) (v::us)) (EP X pins σ Q) X.xe s
section
variable{X:Cx}{a b:Expr}{ta tb:TE}{pos:Pos}
theorem pe_ix{r:R2}(hr:IxR X r)(ha:PE X a ta)(hb:PE X b tb)(hs:PlainIx b):PE X (.Subscript a b pos) (tOp r ta tb):=by
 intro pins s σ H Q I h
 exact Subscript_ (binT ha hb I h fun v u s2 x y H2 I2 rx ry q=>hr a b pins s2 σ H2 x y v u Q I2 rx ry q (hs _ _))
noncomputable def rIxL(K:PySem.W.Frag):R2:=fun x y H Q=>∃ p xs i v,x=.ref p∧y=.int i∧SqL K H p xs∧atI xs i=some v∧Q v H
noncomputable def rIxT(K:PySem.W.Frag):R2:=fun x y H Q=>∃ p xs i v,x=.ref p∧y=.int i∧SqT K H p xs∧atI xs i=some v∧Q v H
theorem ix_list:IxR X (rIxL X.K):=by
 intro value slice pins s σ H x y v u Q I rx ry h hs
 obtain ⟨p,xs,i,z,rfl,rfl,hq,he,q⟩:=h
 cases rx
 obtain ⟨t,rfl⟩:=ry
 obtain ⟨its,r,pl,hz⟩:=I.list hq
 obtain ⟨j,h1,h2,h3,h4,h5⟩:=atI_get he
 obtain ⟨w,ew,rw'⟩:=r.get h2
 have hl:=r.length
 have hn:=line63
 have fin:EP X pins σ Q w s:=⟨z,H,I,rw',q⟩
 by_cases h0:0≤i
 ·have hj:i.toNat=j:=by
   rw [seqIndex_of h0 h5] at h1
   exact Option.some.inj h1
  exact item_listR pl.isList h0 (by omega) (by rw [hj];simpa using ew) fin hs
 ·have hj:(i+(its.toArray.size:Int)).toNat=j:=by
   rw [seqIndex_neg (by omega) h4] at h1
   rw [List.size_toArray,← hl]
   exact Option.some.inj h1
  exact subscriptTail_builtinR (x:=w) pl.isList.typeIs slot_list_getitem.lookup
   (wpAny_getItem_list_neg (Q:=fun r s'=>r=w∧EP X pins σ Q r s') pl.isList (by omega) (by rw [List.size_toArray] <;> omega) (by omega) (by rw [hj];simpa using ew) ⟨rfl,fin⟩) hs
theorem ix_tup:IxR X (rIxT X.K):=by
 intro value slice pins s σ H x y v u Q I rx ry h hs
 obtain ⟨p,xs,i,z,rfl,rfl,hq,he,q⟩:=h
 cases rx
 obtain ⟨t,rfl⟩:=ry
 obtain ⟨its,r,pl,hz⟩:=I.tuple hq
 obtain ⟨j,h1,h2,h3,h4,h5⟩:=atI_get he
 obtain ⟨w,ew,rw'⟩:=r.get h2
 have hl:=r.length
 have hn:=line63
 have fin:EP X pins σ Q w s:=⟨z,H,I,rw',q⟩
 exact subscriptTail_builtinR (x:=w) pl.typeIs slot_tuple_getitem.lookup
  (getItem_tuple (j:=j) (Q:=fun r s'=>r=w∧EP X pins σ Q r s') pl (by omega) (by omega) (by rw [List.size_toArray,← hl];exact h1) (by simpa using ew) ⟨rfl,fin⟩) hs
theorem mapSeq_set(its:List Value)(n j:Nat)(u:Value):Obj.mapSeq (·.setIfInBounds j u) {cls:=.type "list",data:=.seq its.toArray n}={cls:=.type "list",data:=.seq (its.set j u).toArray n}:=by
 simp [Obj.mapSeq]
theorem Inv.lst{pins:List (Addr×Obj)}{σ:St}{H:Hp}{s:Shared}{p:Addr}{xs:List V}(I:Inv X pins σ H s)(h:H p=some (.lst xs)) :
  ∃ (its:List Value) (n:Nat),Vals xs its∧s.heap.get? p=some {cls:=.type "list",data:=.seq its.toArray n}∧xs.length≤sizeLine:=by
 obtain ⟨z,its,n,r,e⟩:=I.hok p _ h
 exact ⟨its,n,r,e,z⟩
theorem Inv.lstUpd{pins:List (Addr×Obj)}{σ:St}{H:Hp}{s:Shared}{p:Addr}{xs ys:List V}{its its':List Value}{n n':Nat}{f:Obj→Obj}(I:Inv X pins σ H s)(h:H p=some (.lst xs))
  (ho:s.heap.get? p=some {cls:=.type "list",data:=.seq its.toArray n}) (hf:f {cls:=.type "list",data:=.seq its.toArray n}={cls:=.type "list",data:=.seq its'.toArray n'}) (r:Vals ys its') (hz:ys.length≤sizeLine) (t:Nat) :
  Inv X pins σ (upd H p (.lst ys)) {s with heap:=s.heap.update p f,toks:=t}:=by
 have e:(s.heap.update p f).get? p=some {cls:=.type "list",data:=.seq its'.toArray n'}:=by
  rw [Heap.get?_update_self f ho (by rw [hf] <;> rfl),hf]
 refine I.write (x:=p) (e:=p) (by rw [h];trivial) (.inl rfl) (fun b u hb q=>(Heap.get?_update_other _ _ (Ne.symm hb)).trans q) ⟨_,e⟩ ?_
 exact ⟨hz,its',n',r,e⟩
noncomputable def rSetL:V→V→V→Hp→(Hp→Prop)→Prop:=fun o i v H Q=>∃ p xs k j,o=.ref p∧i=.int k∧H p=some (.lst xs)∧ixN xs.length k=some j∧Q (upd H p (.lst (xs.set j v)))
theorem set_list:PSet X rSetL:=by
 intro pins s σ H o i v ov iv u Q I ro ri rv h
 obtain ⟨p,xs,k,j,rfl,rfl,hp,hj,q⟩:=h
 cases ro
 obtain ⟨t,rfl⟩:=ri
 obtain ⟨its,n,r,ho,hz⟩:=I.lst hp
 obtain ⟨h1,h2,h3,h4⟩:=ixN_seq hj
 have hl:=r.length
 have hn:=line63
 have I':Inv X pins σ (upd H p (.lst (xs.set j v))) {s with heap:=s.heap.update p (Obj.mapSeq (·.setIfInBounds j u))} :=
  I.lstUpd hp ho (mapSeq_set its n j u) (r.set rv j) (by rw [List.length_set];exact hz) s.toks
 by_cases h0:0≤k
 ·have hk:k.toNat=j:=by
   rw [seqIndex_of h0 h4] at h1
   exact Option.some.inj h1
  exact PySem.W.ki_setAt ho h0 (by omega) (by rw [List.size_toArray,← hl];exact h4) (by rw [hk];exact ⟨_,I',q⟩)
 ·have hk:(k+(its.toArray.size:Int)).toNat=j:=by
   rw [seqIndex_neg (by omega) h3] at h1
   rw [List.size_toArray,← hl]
   exact Option.some.inj h1
  exact PySem.W.ki_setBack ho (by omega) (by rw [List.size_toArray,← hl];exact h3) (by omega) (by rw [hk];exact ⟨_,I',q⟩)
theorem slice_bounds(lo hi:Option Int)(n:Nat):(sliceBounds lo hi none n).1=((HT.sIx n 0 lo:Nat):Int)∧(sliceBounds lo hi none n).2.1=((HT.sIx n n hi:Nat):Int)∧(sliceBounds lo hi none n).2.2=1:=by
 refine ⟨?_,?_,rfl⟩
 ·cases lo with
  | none=>simp [sliceBounds,HT.sIx]
  | some i =>
   simp only [sliceBounds,HT.sIx,Option.getD_none,show (1:Int)>0 by decide,if_true]
   by_cases h:i<0
   ·simp only [h,if_true] <;> omega
   ·simp only [h,if_false] <;> omega
 ·cases hi with
  | none=>simp [sliceBounds,HT.sIx]
  | some i =>
   simp only [sliceBounds,HT.sIx,Option.getD_none,show (1:Int)>0 by decide,if_true]
   by_cases h:i<0
   ·simp only [h,if_true] <;> omega
   ·simp only [h,if_false] <;> omega
theorem slicePick_cut(its:List Value)(lo hi:Option Int):slicePick its.toArray lo hi none=((its.drop (HT.sIx its.length 0 lo)).take (HT.sIx its.length its.length hi - HT.sIx its.length 0 lo)).toArray:=by
 obtain ⟨h1,h2,h3⟩:=slice_bounds lo hi its.toArray.size
 unfold slicePick
 rw [h1,h2,h3]
 simp only [sliceRange_one,pick_run,List.size_toArray] <;> rfl
noncomputable def rSlL(K:PySem.W.Frag):V→Option Int→Option Int→Hp→VK→Prop:=fun x lo hi H Q=>∃ a xs,x=.ref a∧SqL K H a xs∧∀ p,H p=none→Q (.ref p) (upd H p (.lst (cutV xs lo hi)))
theorem sl_list:SlR X (rSlL X.K):=by
 intro pins s σ H x v vl vu lo hi sl Q I rx hs pl pu h
 obtain ⟨a,xs,rfl,hx,q⟩:=h
 cases rx
 obtain ⟨its,r,ht,hz⟩:=I.list hx
 have hlen:=r.length
 refine ⟨"list",_,slot_list_getitem.lookup,ht.isList.typeIs,?_⟩
 refine wpAny_getItem_list_slice ht.isList hs pl pu .none (by simp) ?_ (by rw [List.size_toArray] <;> omega)
 rw [slicePick_cut,← hlen]
 refine ⟨.ref s.heap.objs.size,_,I.laid (t':=s.toks) (o:=.lst (cutV xs lo hi)) (fun b ob q=>Heap.get?_push_of_some _ q) (Nat.le_refl _) ?_,rfl,q _ (I.hok.fresh (Nat.le_refl _))⟩
 exact ⟨Nat.le_trans (cutV_length xs lo hi) hz,_,0,(r.drop (HT.sIx xs.length 0 lo)).take (HT.sIx xs.length xs.length hi - HT.sIx xs.length 0 lo),Heap.get?_push_size _ rfl⟩
theorem call_len_seq:CallR X (.builtin "len") (fun xs H Q=>∃ p ys,xs=[.ref p]∧(SqL X.K H p ys∨SqT X.K H p ys)∧Q (.int ys.length) H):=by
 intro pins s σ H xs us Q I r h
 obtain ⟨p,ys,rfl,hq,q⟩:=h
 obtain ⟨u,rfl,rx⟩:=vals1 r
 cases rx
 have hn:=line63
 rcases hq with hq | hq
 ·obtain ⟨its,r',pl,hz⟩:=I.list hq
  have hlen:=r'.length
  exact Calls.call_len_list pl.isList (by simp only [List.size_toArray] <;> omega) ⟨.int ys.length,H,I.tok _,⟨s.toks+1,by rw [List.size_toArray,hlen]⟩,q⟩
 ·obtain ⟨its,r',pl,hz⟩:=I.tuple hq
  have hlen:=r'.length
  exact len_tuple pl (by simp only [List.size_toArray] <;> omega) ⟨.int ys.length,H,I.tok _,⟨s.toks+1,by rw [List.size_toArray,hlen]⟩,q⟩
theorem call_list_of:CallR X (.type "list") (fun xs H Q=>∃ p ys,xs=[.ref p]∧(SqL X.K H p ys∨SqT X.K H p ys)∧∀ l,H l=none→Q (.ref l) (upd H l (.lst ys))):=by
 intro pins s σ H xs us Q I r h
 obtain ⟨p,ys,rfl,hq,q⟩:=h
 obtain ⟨u,rfl,rx⟩:=vals1 r
 cases rx
 have fin:∀ (its:List Value),Vals ys its→ys.length≤sizeLine→∀ (h':Heap) (c':Nat),(∀ b o',s.heap.get? b=some o'→h'.get? b=some o')→
   h'.get? s.heap.objs.size=some {cls:=.type "list",dict:=none,data:=.seq its.toArray c',slots:=#[]}→EP X pins σ Q (.ref s.heap.objs.size) {s with heap:=h'}:=fun its r' hz h' c' kp e =>
  ⟨.ref s.heap.objs.size,_,I.laid (t':=s.toks) kp (Nat.le_refl _) (show ObjOk X.prog X.w _ h' _ (.lst ys) from ⟨hz,its,c',r',e⟩),rfl,q _ (I.hok.fresh (Nat.le_refl _))⟩
 rcases hq with hq | hq
 ·obtain ⟨its,r',pl,hz⟩:=I.list hq
  have hlen:=r'.length
  obtain ⟨o,ho,hc,n,hd⟩:=pl.isList
  exact call_list_seq p (.inl rfl) ho hc hd (fun h' c' kp e=>fin its r' hz h' c' kp e) (by simp only [List.size_toArray] <;> omega)
 ·obtain ⟨its,r',pl,hz⟩:=I.tuple hq
  have hlen:=r'.length
  obtain ⟨o,ho,hc,n,hd⟩:=pl
  exact call_list_seq p (.inr rfl) ho hc hd (fun h' c' kp e=>fin its r' hz h' c' kp e) (by simp only [List.size_toArray] <;> omega)
noncomputable def tyV(K:PySem.W.Frag)(T:String)(x:V)(H:Hp):Prop:=match x with
 | .str _=>T="str"
 | .int _=>T="int"
 | .ref p=>(T="list"∧∃ xs,SqL K H p xs)∨(T="tuple"∧∃ o,K.lookup p=some o∧o.cls=.type "tuple"∧o.dict=none)∨
   (T="dict"∧((∃ kvs,H p=some (.dK kvs))∨∃ kvs,H p=some (.dT kvs)))∨(T="set"∧∃ S n,H p=some (.set S n))
 | _=>False
theorem tyV_is{pins:List (Addr×Obj)}{σ:St}{H:Hp}{s:Shared}{T:String}{x:V}{v:Value}(I:Inv X pins σ H s)(r:RelV x v)(ty:tyV X.K T x H) :
  s.TypeIs v T∧∀ a,v=.ref a→∃ ob,s.heap.get? a=some ob∧ob.dict=none:=by
 cases x with
 | str z =>
  obtain ⟨t,rfl⟩:=r
  cases (show T="str" from ty)
  exact ⟨typeIs_str s z t,fun _ e=>nomatch e⟩
 | int i =>
  obtain ⟨t,rfl⟩:=r
  cases (show T="int" from ty)
  exact ⟨typeIs_int s i t,fun _ e=>nomatch e⟩
 | ref p =>
  cases r
  rcases ty with ⟨rfl,xs,hq⟩ | ⟨rfl,o,hk,hc,hd⟩ | ⟨rfl,hk⟩ | ⟨rfl,S,n,hk⟩
  ·obtain ⟨its,_,pl,_⟩:=I.list hq
   refine ⟨pl.isList.typeIs,fun a e=>?_⟩
   cases e
   obtain ⟨o,n,e,c,hd,_⟩:=pl
   exact ⟨o,e,hd⟩
  ·refine ⟨⟨o,I.kIn p o hk,hc⟩,fun a e=>?_⟩
   cases e
   exact ⟨o,I.kIn _ o hk,hd⟩
  ·have z:∃ o,s.heap.get? p=some o∧o.ExactDict:=by
    rcases hk with ⟨kvs,hk⟩ | ⟨kvs,hk⟩
    ·obtain ⟨_,_,_,_,o,_,_,e,ex,_⟩:=I.hok p _ hk
     exact ⟨o,e,ex⟩
    ·obtain ⟨_,_,_,_,o,_,_,e,ex,_⟩:=I.hok p _ hk
     exact ⟨o,e,ex⟩
   obtain ⟨o,e,ex⟩:=z
   refine ⟨⟨o,e,ex.1⟩,fun a e2=>?_⟩
   cases e2
   exact ⟨o,e,ex.2.1⟩
  ·obtain ⟨o,_,_,_,e,ex,_⟩:=I.hok p _ hk
   refine ⟨⟨o,e,ex.1⟩,fun a e2=>?_⟩
   cases e2
   exact ⟨o,e,ex.2.1⟩
 | _=>exact False.elim ty
noncomputable def tBM(K:PySem.W.Frag)(T:String)(r:V→List V→Hp→VK→Prop)(to:TE)(t:TA):TE:=fun σ H Q=>to σ H fun x H1=>tyV K T x H1∧t σ H1 fun xs H2=>r x xs H2 Q
variable{o e:Expr}{es:List Expr}{to:TE}{t:TA}{name:Str}{apos cpos:Pos}{T id:String}{r:V→List V→Hp→VK→Prop}
theorem pe_bm(pa:PlainAttrs T)(slot:Slot T name id)(hty:typeOf (.builtin id)=pure (.type "method_descriptor"))(hm:MtR X id r)(ho:PE X o to)(ha:PA X (e::es) t)
  (hbase:attributeBase o name X.env (eval o X.env)=eval o X.env:=by rfl)
  (hfew:((backTo cpos (starEach (e::es) X.env)).all (fun x=>!x.1)&&(backToKw cpos (keywordEach [] X.env)).all (fun x=>x.1.isSome)
   && decide ((e::es).length+([]:List Keyword).length+(if ([]:List Keyword).isEmpty then 0 else 1)<30))=true:=by rfl)
  (hline:(apos.endLine==cpos.line)=true:=by rfl) (hs:starEach (e::es) X.env=(false,eval e X.env)::starEach es X.env:=by rfl) (hplain:(backTo cpos (starEach es X.env)).any (·.1)=false:=by rfl) :
  PE X (.Call (.Attribute o name apos) (e::es) [] cpos) (tBM X.K T r to t):=by
 intro pins s σ H Q I h
 refine wpAny_Call_method_late hbase hfew hline rfl (thn (ho pins s σ H _ I h) fun v s1 ⟨x,H1,I1,r1,ty,q1⟩=>?_)
 obtain ⟨h1,h2⟩:=tyV_is I1 r1 ty
 refine ⟨T,id,pa,slot,hty,h1,h2,?_⟩
 have hA:=ha cpos pins s1 σ H1 _ I1 q1
 rw [hs] at hA⊢
 refine Calls.callWith_builtin (by show (false || (backTo cpos (starEach es X.env)).any (·.1))=false;rw [hplain] <;> rfl) (Calls.evalArgs_plain ?_)
 exact thn hA fun us s2 ⟨vs,H2,I2,r2,q2⟩=>hm pins s2 σ H2 x vs v us Q I2 r1 r2 q2
/- xs.append(e), list.index on a module's tuple .. are MtR facts of 06m -/
end
end L2
namespace L2
open PySem PySem.Spec PyProof.Rows
noncomputable def MtM(X:Cx)(id:String)(r:V→List V→Hp→VK→Prop):Prop :=
 ∀ (pins:List (Addr×Obj)) (s:Shared) (σ:St) (H:Hp) (x:V) (xs:List V) (v:Value) (us:List Value) (Q:VK),Inv X pins σ H s→RelV x v→Vals xs us→r x xs H Q→
  wpAny (model X.prog X.w) X.A (call (.builtin id) (v::us)) (EP X pins σ Q) X.xe s
theorem Vals.one:∀ {x:V} {us:List Value},Vals [x] us→∃ u,us=[u]∧RelV x u
 | _,_,.cons r .nil=>⟨_,rfl,r⟩
theorem Vals.reverse{xs:List V}{us:List Value}(h:Vals xs us):Vals xs.reverse us.reverse:=by
 induction h with
 | nil=>exact .nil
 | cons r t ih=>rw [List.reverse_cons,List.reverse_cons];exact Vals.append ih (.cons r .nil)
section
variable{X:Cx}{pins:List (Addr×Obj)}{σ:St}{H:Hp}{s:Shared}{l b:Addr}{xs ys zs:List V}
theorem Inv.lset{its its':List Value}{n:Nat}{f:Array Value→Array Value}{t':Nat}(I:Inv X pins σ H s)(hH:H l=some (.lst xs))
  (e:s.heap.get? l=some {cls:=.type "list",data:=.seq its.toArray n}) (hf:f its.toArray=its'.toArray) (hv:Vals ys its') (hz:ys.length≤sizeLine) :
  Inv X pins σ (upd H l (.lst ys)) {s with heap:=s.heap.update l (Obj.mapSeq f),toks:=t'}:=by
 have q:=PySem.IsL.update e f
 rw [hf] at q
 refine I.write (x:=l) (e:=l) (by rw [hH];exact trivial) (.inl rfl) (fun b' u hb hu=>(Heap.get?_update_other s.heap (Obj.mapSeq f) (Ne.symm hb)).trans hu) ⟨_,q⟩ ?_
 exact ⟨hz,its',_,hv,q⟩
theorem Inv.lnew{its:List Value}{t':Nat}(I:Inv X pins σ H s)(hv:Vals ys its)(hz:ys.length≤sizeLine) :
  Inv X pins σ (upd H s.heap.objs.size (.lst ys)) {s with heap:=s.heap.push {cls:=.type "list",data:=.seq its.toArray},toks:=t'} :=
 I.laid (fun _ _ q=>Heap.get?_push_of_some _ q) (Nat.le_refl _) ⟨hz,its,0,hv,Heap.get?_push_size _ rfl⟩
theorem Inv.fresh(I:Inv X pins σ H s):H s.heap.objs.size=none:=I.hok.fresh (Nat.le_refl _)
theorem Inv.lstM(I:Inv X pins σ H s)(hH:H l=some (.lst xs)):xs.length≤sizeLine∧∃ (its:List Value) (n:Nat),Vals xs its∧xs.length=its.length∧s.heap.get? l=some {cls:=.type "list",data:=.seq its.toArray n}:=by
 obtain ⟨z,its,n,r,e⟩:=I.hok l _ hH
 exact ⟨z,its,n,r,r.length,e⟩
theorem notLongL{n:Nat}(h:n≤sizeLine):Builtin.List.listTooLong n=false:=by
 unfold Builtin.List.listTooLong
 exact decide_eq_false (by omega)
end
section
variable{X:Cx}
noncomputable def rAppend:V→List V→Hp→VK→Prop:=fun x vs H Q=>∃ l xs y,x=.ref l∧vs=[y]∧H l=some (.lst xs)∧xs.length<sizeLine∧Q .non (upd H l (.lst (xs++[y])))
theorem mt_append:MtM X "list.append" rAppend:=by
 intro pins s σ H x vs v us Q I rx rv h
 obtain ⟨l,xs,y,rfl,rfl,hH,hz,q⟩:=h
 cases rx
 obtain ⟨u,rfl,ru⟩:=rv.one
 obtain ⟨z,its,n,r,hl,e⟩:=I.lstM hH
 refine call_meets F.slot_list_append ⟨_,e,rfl⟩ F.entry_list_append (F.args_list_append_2 _ _) (PySem.list_append l its.toArray n u (by rw [List.size_toArray];omega)) ⟨e,?_⟩
 refine ⟨.non,_,I.lset (its':=its++[u]) hH e (by simp) (r.append (.cons ru .nil)) ?_,rfl,q⟩
 rw [List.length_append,List.length_singleton]
 omega
noncomputable def rExtend:V→List V→Hp→VK→Prop:=fun x vs H Q=>∃ l b xs zs,x=.ref l∧vs=[.ref b]∧H l=some (.lst xs)∧H b=some (.lst zs)∧xs.length+zs.length≤sizeLine∧Q .non (upd H l (.lst (xs++zs)))
theorem mt_extend:MtM X "list.extend" rExtend:=by
 intro pins s σ H x vs v us Q I rx rv h
 obtain ⟨l,b,xs,zs,rfl,rfl,hH,hB,hz,q⟩:=h
 cases rx
 obtain ⟨u,rfl,ru⟩:=rv.one
 cases ru
 obtain ⟨z,its,n,r,hl,e⟩:=I.lstM hH
 obtain ⟨z2,its2,n2,r2,hl2,e2⟩:=I.lstM hB
 have hsz:its.toArray.size+its2.toArray.size≤sizeLine:=by rw [List.size_toArray,List.size_toArray];omega
 have hlong:¬ (!its.toArray.isEmpty&&Builtin.List.listTooLong (its.toArray.size+its2.toArray.size))=true:=by
  rw [notLongL hsz,Bool.and_false]
  exact Bool.false_ne_true
 refine call_meets F.slot_list_extend ⟨_,e,rfl⟩ F.entry_list_extend (F.args_list_extend_2 _ _)
  (AutoSeq1.list_extend_list_list_0 l its.toArray n b its2.toArray n2 hlong (by rw [List.size_toArray];omega) (by omega)) ⟨e,e2,?_⟩
 refine ⟨.non,_,I.lset (its':=its++its2) hH e (by simp) (r.append r2) ?_,rfl,q⟩
 rw [List.length_append]
 omega
noncomputable def rCat:R2:=fun x y H Q=>∃ l b xs zs,x=.ref l∧y=.ref b∧H l=some (.lst xs)∧H b=some (.lst zs)∧xs.length+zs.length≤sizeLine∧∀ p,H p=none→Q (.ref p) (upd H p (.lst (xs++zs)))
theorem op_cat:OpR X (binaryOp .Add) rCat:=by
 intro pins s σ H x y v u Q I rx ry h
 obtain ⟨l,b,xs,zs,rfl,rfl,hH,hB,hz,q⟩:=h
 cases rx
 cases ry
 obtain ⟨z,its,n,r,hl,e⟩:=I.lstM hH
 obtain ⟨z2,its2,n2,r2,hl2,e2⟩:=I.lstM hB
 refine PySem.P.add_list e e2 ?_ (by rw [List.size_toArray,List.size_toArray];omega)
 have ea:its.toArray++its2.toArray=(its++its2).toArray:=by simp
 rw [ea]
 exact ⟨.ref _,_,I.lnew (t':=s.toks) (r.append r2) (by rw [List.length_append];omega),rfl,q _ I.fresh⟩
end
section
variable{prog:Program}{w:World}{A:Around}{E:Value→Shared→Prop}{s:Shared}
end
section
variable{X:Cx}
end
end L2
namespace Att
open PySem PySem.W PySem.Calls PyProof.Rows
theorem ints_of_wellAll{P:Params}{h:Heap}:∀ (ns:List Int) (vs:List Value),WellAll P h vs (ns.map WData.int)→IntsAre vs ns:=by
 intro ns
 induction ns with
 | nil =>
  intro vs w
  rw [List.map_nil] at w
  cases w
  exact .nil
 | cons n ns ih =>
  intro vs w
  rw [List.map_cons] at w
  cases w with
  | cons a b =>
   cases a
   exact .cons _ _ (ih _ b)
theorem script_of{l:OpenLaw}{n:Nat}(hn:l.most=some n){P:Params}{h:Heap}{args:List WData}{vals:List Value}
  (hpre:l.row.toRowW.claim.pre args=true) (hwl:WellAll P h vals args) :
  ∃ a vs ns,vals=[Value.ref a]∧args=[WData.list (ns.map WData.int)]∧h.get? a=some {cls:=.type "list",data:=.seq vs.toArray}∧IntsAre vs ns∧ns.length≤n:=by
 have hsh:WShape.hasAll [] args [.list .int]=true:=(pre_splitW hpre).1
 have hc:l.pre.holds [] {args:=args}=true:=(pre_splitW hpre).2
 obtain ⟨d,r,rfl,h1,h2⟩:=hasAllW_cons hsh
 obtain rfl:=hasAllW_nil h2
 obtain ⟨xs,rfl,h3⟩:=hasW_list h1
 obtain ⟨ns,rfl⟩:=items_int h3
 have hlen:ns.length≤n:=by
  unfold OpenLaw.pre at hc
  have h4:(WTm.not (.lt (.lit (.int (n:Int))) (.len (.arg 0)))).holds [] {args:=[.list (ns.map .int)]}=true:=by
   have h4:=(holds_andW hc).1
   rw [hn] at h4
   exact h4
  have h5:=condW_of h4 (w_not (w_lt w_lit (w_len_list (w_arg rfl))))
  rw [List.length_map] at h5
  refine Nat.le_of_not_lt fun q=>?_
  have q':(n:Int)<((ns.length:Nat):Int):=by omega
  first
   | (rw [decide_eq_true q'] at h5;exact absurd h5 (by decide))
   | (simp at h5;omega)
 cases hwl with
 | cons w1 w2 =>
  cases w2
  cases w1 with
  | list ho hall=>exact ⟨_,_,ns,rfl,rfl,ho,ints_of_wellAll ns _ hall,hlen⟩
theorem post_true(l:OpenLaw)(args:List WData):l.row.toRowW.claim.post args (.bool true) args=true :=
 postW_of (r:=l.row.toRowW) (X:=(true==true))
  (show WShape.has [] (.bool true) .bool=true by first | rfl | decide | simp [WShape.has,WShape.arms,WShape.armsAll])
  (show (WTm.eq .res (.lit (.bool true))).value [] {args:=args,res:=some (.bool true),after:=args}=some (.bool (true==true)) from w_eq_bool (w_res rfl) w_lit) rfl
theorem attach_call{l:OpenLaw}{n:Nat}{q:Program}{loose:List Str}{XP:(Str→Option Value)→Heap→Prop}{YP:World→Heap→Prop}{d:DefRec}
  (hn:l.most=some n) (hdf:d.params.defaults=[])
  (call:∀ (w:World) (s₀ s₁:Shared) (mg mb:Str→Option Value) (fa:Addr) (o:Obj) (pm cd doc:Value) (a:Addr) (vs:List Value) (ns:List Int),
   Ground q loose [] XP w s₀ mg mb s₁.heap→YP w s₁.heap→
   s₁.heap.get? fa=some o→o.data=.func (docDef d.name d.params d.body d.scope pm cd doc)→s₁.heap.CodeRec cd d.name→mg d.name=some (.ref fa)→
   s₁.heap.get? a=some {cls:=.type "list",data:=.seq vs.toArray}→IntsAre vs ns→ns.length≤n→s₁.gens=#[]→
   codeAny (model l.prog w) callerA (.call (.ref fa) ⟨[.ref a],[]⟩) (fun r s'=>r=.ok (.ret (.bool true))∧OldK s₁.heap s'.heap∧s'.os=s₁.os∧AllBare s'.gens) s₁) :
  WalkO q loose XP YP l.row.toRowW d [] (fun f vs=>PySem.call f vs):=by
 intro w s₀ s₁ mg mb G Y fa o pm cd doc dV kV ho hd hcd hD hmg hg args vals as hpre hlay hrd hwl hlo
 obtain rfl:dV=.none:=Dflts.none hD hdf
 obtain rfl:kV=.none:=Dflts.noKw hD
 obtain ⟨a,vs,ns,rfl,rfl,hobj,hints,hlen⟩:=script_of hn hpre hwl
 refine enter_call (codeAny_mono (call w s₀ s₁ mg mb fa o pm cd doc a vs ns G Y ho (fd_plain hd) hcd hmg hobj hints hlen hg) fun r s' hq=>?_)
 obtain ⟨rfl,h2,h3,h4⟩:=hq
 exact ⟨.inl ⟨.bool true,.bool true,[],rfl,fun _=>rfl,.bool true,post_true l _,fun _=>⟨List.Pairwise.nil,fun _ hm=>(nomatch hm)⟩⟩,h2,h3,h4⟩
section
variable{prog:Program}{w:World}{A:Around}{E:Value→Shared→Prop}{s:Shared}{K:Frag}
noncomputable def ledger(h:Heap)(L d:Addr):List (Addr×Obj):=(List.range h.objs.size).filterMap fun a=>if a=L∨a=d then none else (h.get? a).map fun o=>(a,o)
end
end Att
namespace L2
open PySem PySem.Spec PyProof.Rows
theorem vals_ints{vs:List Value}{ns:List Int}(h:IntsAre vs ns):Vals (ns.map V.int) vs:=by
 induction h with
 | nil=>exact .nil
 | cons n t _ ih=>exact .cons ⟨t,rfl⟩ ih
noncomputable def Only(H:Hp):Prop:=∀ b,H b=none∨∃ o xs,H b=some (.frz o (.lst xs))
theorem law_call{P:Program}{w:World}{K:PySem.W.Frag}{mg mb:Str→Option Value}{CX:CXT}{k:Nat}{fa a:Addr}{fd:FuncData}{x:Str}{sp:Sp}{s₁:Shared}{vs:List Value}{ns:List Int}
  (KX:K.In s₁.heap) (hns:s₁.heap.Ns mainGlobals mg) (hb:s₁.heap.Ns builtinsNs mb) (hbb:∀ x:Str,x≠"__name__"→mb x=bootBuiltins x) (hlim:s₁.heap.NoLimit) (hg:s₁.gens=#[])
  (ha:s₁.heap.get? a=some {cls:=.type "list",data:=.seq vs.toArray}) (hi:IntsAre vs ns) (hl:ns.length≤sizeLine) (hr:Room k callerA)
  (F:∀ base:Heap,K.In base→base.Ns mainGlobals mg→FnOk P w K mg base CX k fa fd [x] sp) (hbind:∀ (s:Shared) (u:Value),BindsTo s fd ⟨[u],[]⟩ [(x,u)])
  (hsp:∀ H:Hp,Only H→SqL K H a (ns.map V.int)→sp [.ref a] H (fun v _=>v=.bl true) fun _ _ _=>False)
  (hCX:∀ H e s',CX [] H s₁ (fun _ _ _=>False) e s'→False) :
  codeAny (model P w) callerA (.call (.ref fa) ⟨[.ref a],[]⟩) (fun r s'=>r=.ok (.ret (.bool true))∧OldK s₁.heap s'.heap∧s'.os=s₁.os∧AllBare s'.gens) s₁:=by
 have rv:=vals_ints hi
 have lenV:=hi.length
 -- from an abstract heap in which nothing but the script may be tracked
 have core:∀ H:Hp,Only H→SqL K H a (ns.map V.int)→HOk P w H s₁.heap→(∀ b,H b≠none→b=a)→(H a≠none→K.lookup a=none)→
   codeAny (model P w) callerA (.call (.ref fa) ⟨[.ref a],[]⟩) (fun r s'=>r=.ok (.ret (.bool true))∧OldK s₁.heap s'.heap∧s'.os=s₁.os∧AllBare s'.gens) s₁:=by
  intro H hO hS hok hA hK
  have base_of:∀ {b:Addr} {o:Obj},s₁.heap.get? b=some o→H b=none→(hidT s₁.heap H).get? b=some o:=fun e n=>hidT_get e n
  have noA:∀ {b:Addr} {o:Obj} {es:Array DictEntry} {ep:Nat},s₁.heap.get? b=some o→o.data=.dict es ep→H b=none:=fun {b o es ep} e d=>by
   cases q:H b with
   | none=>rfl
   | some u =>
    have e':b=a:=hA b (by rw [q];simp)
    subst e'
    rw [ha] at e;cases e
    have d':Data.seq vs.toArray _=Data.dict es ep:=d
    cases d'
  have nsK:∀ {b:Addr} {m:Str→Option Value},s₁.heap.Ns b m→(hidT s₁.heap H).Ns b m:=fun {b m} ⟨o,es,ep,e,d,r⟩=>⟨o,es,ep,base_of e (noA e d),d,r⟩
  have hKb:K.In (hidT s₁.heap H):=fun b o e=>base_of (KX b o e) (by
   cases q:H b with
   | none=>rfl
   | some u =>
    have e':b=a:=hA b (by rw [q];simp)
    subst e'
    rw [hK (by rw [q];simp)] at e;cases e)
  have hM:Mod K mg (hidT s₁.heap H):=⟨hKb,nsK hns,⟨mb,nsK hb,hbb⟩,let ⟨mc,h1,h2⟩:=hlim;⟨mc,nsK h1,h2⟩⟩
  have e0:Env0 P w K mg (hidT s₁.heap H) callerA [] s₁ H:=⟨rfl,hM,fun b o e=>of_hidT e,Nat.le_of_eq (hidT_size _ _),trivial,fun b hb=>absurd (show b∈([]:List Addr) from hb) (by simp),hok,.of_eq hg⟩
  refine codeAny_mono ((F _ hKb (nsK hns)).run callerA [] s₁ H ⟨[.ref a],[]⟩ [.ref a] [.ref a] _ _ hr e0 (hbind s₁ (.ref a)) (.cons rfl .nil) (hsp H hO hS)) fun r s' h=>?_
  cases r with
  | error e=>exact (hCX H e s' h).elim
  | ok fl =>
   cases fl with
   | next=>exact False.elim h
   | brk=>exact False.elim h
   | cont=>exact False.elim h
   | ret u =>
    obtain ⟨v,H',os,bare,un,hok',r',q⟩:=h
    have q':v=.bl true:=q
    subst q'
    obtain rfl:u=Value.bool true:=r'
    refine ⟨rfl,OldK.of_keep fun b o e=>?_,os,bare⟩
    cases q:H b with
    | none=>exact un.keep b o e q (by intro z;exact absurd (show b∈([]:List Addr) from z) (by simp)) (by simp)
    | some u =>
     rcases hO b with z | ⟨ob,xs,z⟩
     ·rw [q] at z;cases z
     ·have z2:=un.frzs b ob _ z
      obtain ⟨e1,_⟩:=hok b _ z
      obtain ⟨e2,_⟩:=hok' b _ z2
      rw [e] at e1;cases e1
      exact e2
 cases hk:K.lookup a with
 | some o =>
  -- the script is one of the module's own objects
  have e:=KX a o hk
  rw [ha] at e
  cases e
  refine core (fun _=>none) (fun _=>.inl rfl) (.inr ⟨_,vs.toArray,_,hk,rfl,rfl,rfl,by rw [List.size_toArray,lenV];exact hl,by simpa using rv⟩) (fun b u z=>by have z':(none:Option HO)=some u:=z;cases z') (fun b z=>absurd rfl z) fun z=>absurd rfl z
 | none =>
  refine core (fun b=>if b=a then some (.frz {cls:=.type "list",data:=.seq vs.toArray} (.lst (ns.map V.int))) else none) (fun b=>?_) (.inl (.inr ⟨{cls:=.type "list",data:=.seq vs.toArray},if_pos rfl⟩)) (fun b u z=>?_) (fun b z=>?_) fun _=>hk
  ·by_cases hb:b=a
   ·exact .inr ⟨_,_,if_pos hb⟩
   ·exact .inl (if_neg hb)
  ·by_cases hb:b=a
   ·have z':=(if_pos hb).symm.trans z
    cases z'
    subst hb
    exact ⟨ha,by rw [List.length_map];exact hl,vs,_,rv,ha⟩
   ·have z':=(if_neg hb).symm.trans z
    cases z'
  ·by_cases hb:b=a
   ·exact hb
   ·exact absurd (if_neg hb) z
end L2
namespace L2
open PySem PySem.Spec PyProof.Rows
noncomputable abbrev KOf{K:PySem.W.Frag}{h:Heap}(_:K.In h):PySem.W.Frag:=K
theorem walk_of{l:PySem.W.OpenLaw}{n k:Nat}{q:Program}{loose:List Str}{XP:(Str→Option Value)→Heap→Prop}{YP:World→Heap→Prop}{d:DefRec}{K:Params→PySem.W.Frag}{CX:World→CXT}{sp:World→Sp}{x:Str}
  (hn:l.most=some n) (hn2:n≤sizeLine) (hdf:d.params.defaults=[]) (hr:Room k callerA)
  (hY:∀ (w:World) (h:Heap),YP w h→(K w.params).In h)
  (F:∀ (w:World) (mg:Str→Option Value) (fa:Addr) (h:Heap),(K w.params).In h→h.Ns mainGlobals mg→mg d.name=some (.ref fa)→
   ∃ fd:FuncData,(∀ (s:Shared) (u:Value),BindsTo s fd ⟨[u],[]⟩ [(x,u)])∧
    ∀ base:Heap,(K w.params).In base→base.Ns mainGlobals mg→FnOk l.prog w (K w.params) mg base (CX w) k fa fd [x] (sp w))
  (hsp:∀ (w:World) (H:Hp) (a:Addr) (ns:List Int),ns.length≤n→Only H→SqL (K w.params) H a (ns.map V.int)→sp w [.ref a] H (fun v _=>v=.bl true) fun _ _ _=>False)
  (hCX:∀ (w:World) (H:Hp) (s:Shared) (e:Value) (s':Shared),CX w [] H s (fun _ _ _=>False) e s'→False) :
  PySem.W.WalkO q loose XP YP l.row.toRowW d [] (fun f vs=>PySem.call f vs):=by
 refine Att.attach_call hn hdf fun w s₀ s₁ mg mb fa o pm cd doc a vs ns G Y ho hd hcd hmg hobj hints hlen hg=>?_
 have KX:=hY w _ Y
 obtain ⟨fd,hb,hF⟩:=F w mg fa _ KX G.T.g hmg
 exact law_call KX G.T.g G.T.b G.T.builtins G.T.nolimit hg hobj hints (Nat.le_trans hlen hn2) hr hF hb (fun H hO hS=>hsp w H a ns hlen hO hS) fun H e s'=>hCX w H s₁ e s'
end L2
/- THE LAST THEOREM (shape; LID, My.* are yours):
  My.Adr: a structure of the addresses that your layer names (classes, functions); My.Txt K t: a structure (Prop) of the equations over K;
  My.txt_mk : {K} {implicit addresses ..} (e1 : nsIn K mainGlobals "law" = some (some (.ref f))) (e2 : K.lookup f = some ⟨oc, od, .func (fnOf "law" "law" params body scope dV kV doc pm an cdv ct), sl⟩) (e3 : codeIn K cdv "law" = true) .. : ∃ t, My.Txt K t
set_option maxRecDepth 100000 in
set_option maxHeartbeats 0 in
theorem PySem.Challenge.cw_LID_holds : PySem.Challenge.rw_LID.Holds := by
 w_on; o_law; k_head; (case hw => w_witness2)
 k_fill
 refine L2.walk_of (l := PySem.Challenge.rw_LID) (n := 63) (k := 40) (x := "script") (CX := fun w => ..) (sp := fun _ => My.sp_law) rfl (by decide) rfl ⟨rfl, by decide, by decide⟩ (fun w h Y => PySem.W.kIn_of Y) ?F ?S ?C
 case F =>
  intro w mg fa h KX G hmg
  have T : ∃ t, My.Txt (L2.KOf KX) t := by
   dsimp only [L2.KOf]                          -- K must stand as «<heap const> w.params» for k_is
   refine' My.txt_mk ?e1 ?e2 ?e3 ..
   (case e1 => PySem.W.k_is)                    -- in the order: a name -> its address -> its object -> its parts
   (case e2 => PySem.W.k_is)
   ..
  obtain ⟨t, T⟩ := T
  have e0 := hmg.symm.trans (PySem.W.mg_of KX G T.law)
  cases e0                                       -- fa is the law's own address
  exact ⟨_, fun s u => .of_eq rfl, fun base kb nb => My.law_fn T kb nb⟩     -- if «.of_eq rfl» comes too early: refine' ⟨_, ?b, fun base kb nb => My.law_fn T kb nb⟩; exact fun s u => .of_eq rfl
 case S => exact fun w H a ns hl hO hS => ..
 case C => exact ..
(the tactic k_is has no namespace: write k_is) -/
namespace L2
open PySem PySem.Spec PyProof.Rows
noncomputable def defArgs(s:Stmt):Arguments:=match s with
 | .FunctionDef _ a _ _ _ _ _ _ _ _=>a
 | _=>{posonlyargs:=[],args:=[],vararg:=none,kwonlyargs:=[],kw_defaults:=[],kwarg:=none,defaults:=[]}
noncomputable def defBody(s:Stmt):List Stmt:=match s with
 | .FunctionDef _ _ b _ _ _ _ _ _ _=>b
 | _=>[]
noncomputable def defScope(s:Stmt):Scope:=match s with
 | .FunctionDef _ _ _ _ _ _ sc _ _ _=>sc
 | _=>{kind:=.function,names:=[],isGenerator:=false,isCoroutine:=false}
noncomputable abbrev CX0:CXT:=fun _ _ _ _ _ _=>False
noncomputable abbrev E0:XK:=fun _ _ _=>False
theorem pass0{X:Cx}:Passes CX0 X E0:=fun _ _ _ _ _ _ _ h=>h.elim
structure Fun(K:PySem.W.Frag)(x qual:Str)(st:Stmt)(f:Addr)(fd:FuncData):Prop where
 ex:∃ (oc:Value) (od:Option Addr) (kV doc pm:Value) (an:Option Addr) (cdv ct:Value) (osl:Array (Option Value)),
  fd=PySem.W.fnOf x qual (defArgs st) (defBody st) (defScope st) .none kV doc pm an cdv ct∧K.lookup f=some ⟨oc,od,.func fd,osl⟩∧PySem.W.codeIn K cdv qual=true
 kp:PySem.W.keepIn K (.ref f)=true
section
variable{P:Program}{w:World}{K:PySem.W.Frag}{mg:Str→Option Value}{base:Heap}
theorem Fun.ok{x qual:Str}{st:Stmt}{f:Addr}{fd:FuncData}{N ps:List Str}{k:Nat}{sp:Sp}(F:Fun K x qual st f fd)(S:FnScope N ps (defScope st))(len:∀ vs H Q E,sp vs H Q E→vs.length=ps.length)
  (hbody:∀ (cdv:Value) (A:Around) (outer:List Env) (s:Shared) (H:Hp) (vs:List V) (Q:VK) (E:XK),Room k (A.deeper (envOfC qual (defScope st) s.heap.objs.size f cdv))→sp vs H Q E→
   ∃ t,PSs (cxOf CX0 P w K mg base N qual (defScope st) f cdv A outer s H E).nox (defBody st) t∧t {nx:=fun _ H'=>Q .non H',rt:=Q} (start N vs) H):FnOk P w K mg base CX0 (k+1) f fd ps sp:=by
 obtain ⟨oc,od,kV,doc,pm,an,cdv,ct,osl,rfl,lk,hcd⟩:=F.ex
 refine fn_of lk hcd S len fun A outer s H vs Q E hr hsp=>?_
 obtain ⟨t,h,q⟩:=hbody cdv A outer s H vs Q E hr hsp
 exact ⟨t,h.nox,q⟩
theorem Fun.binds{x qual:Str}{st:Stmt}{f:Addr}{fd:FuncData}{ps:List Str}(F:Fun K x qual st f fd)
  (h:∀ (kV doc pm:Value) (an:Option Addr) (cdv ct:Value) (us:List Value),us.length=ps.length→bindArgs (PySem.W.fnOf x qual (defArgs st) (defBody st) (defScope st) .none kV doc pm an cdv ct) ⟨us,[]⟩=pure (ps.zip us)):Binds K fd ps []:=by
 obtain ⟨oc,od,kV,doc,pm,an,cdv,ct,osl,rfl,lk,hcd⟩:=F.ex
 exact .all (h kV doc pm an cdv ct)
theorem fun_mk{x qual:Str}{st:Stmt}{f:Addr}{oc:Value}{od an:Option Addr}{osl:Array (Option Value)}{kV doc pm cdv ct:Value}(l:K.lookup f=some ⟨oc,od,.func (PySem.W.fnOf x qual (defArgs st) (defBody st) (defScope st) .none kV doc pm an cdv ct),osl⟩)
  (c:PySem.W.codeIn K cdv qual=true) (k:PySem.W.keepIn K (.ref f)=true):Fun K x qual st f (PySem.W.fnOf x qual (defArgs st) (defBody st) (defScope st) .none kV doc pm an cdv ct):=⟨⟨oc,od,kV,doc,pm,an,cdv,ct,osl,rfl,l,c⟩,k⟩
end
theorem hu_of{A:Around}{k:Nat}(hr:Room k A):A.units+1<cLine:=Nat.lt_of_le_of_lt (Nat.add_le_add_left (by decide:1≤64) _) hr.units
section
variable{X:Cx}
theorem pv(i:Nat){x:Str}{pos:Pos}(hN:X.N[i]?=some x:=by rfl)(hv:Vis X.env.scope x:=by first | exact Or.inl rfl | exact Or.inr (Or.inl rfl) | exact Or.inr (Or.inr rfl))(hd:(x==("__debug__":Str))=false:=by decide)
  (hcd:(x==("__classdict__":Str))=false:=by decide):PE X (.Name x pos) (tVar i):=pe_var hN hv hd hcd
end
theorem iteF{A B:Prop}(h:B):if false=true then A else B:=by
 rw [if_neg Bool.false_ne_true]
 exact h
theorem iteT{A B:Prop}(h:A):if true=true then A else B:=by
 rw [if_pos rfl]
 exact h
theorem ite2{c A B:Prop}[Decidable c](h1:c→A)(h2:¬ c→B):if c then A else B:=by
 by_cases h:c
 ·rw [if_pos h]
  exact h1 h
 ·rw [if_neg h]
  exact h2 h
theorem iteNS{c A B:Prop}[Decidable c](hc:c)(h:B):if (!decide c)=true then A else B:=by
 rw [decide_eq_true hc]
 exact iteF h
noncomputable def Same(H H':Hp):Prop:=∀ b o,H b=some o→H' b=some o
theorem Same.refl(H:Hp):Same H H:=fun _ _ h=>h
theorem Same.trans{H H1 H2:Hp}(a:Same H H1)(b:Same H1 H2):Same H H2:=fun c o h=>b c o (a c o h)
theorem Same.free{H H':Hp}(e:Same H H'){l:Addr}(h:H' l=Option.none):H l=Option.none:=by
 cases q:H l with
 | none=>rfl
 | some o =>
  rw [e l o q] at h
  cases h
theorem Same.seq{K:PySem.W.Frag}{H H':Hp}{a:Addr}{xs:List V}(e:Same H H')(h:SqL K H a xs):SqL K H' a xs:=by
 rcases h with (h | ⟨o,h⟩) | h
 ·exact .inl (.inl (e _ _ h))
 ·exact .inl (.inr ⟨o,e _ _ h⟩)
 ·exact .inr h
end L2
set_option maxHeartbeats 4000000
namespace L2
open PySem PySem.Spec PyProof.Rows
theorem forIn_by{al be:Type}{l:List al}{f:al→be→Sem (ForInStep be)}(R:List al→be→Prop):∀ (pre rest:List al) (c:be),l=pre++rest→R pre c→
  (∀ pre x post c,l=pre++x::post→R pre c→∃ d,f x c=pure (.yield d)∧R (pre++[x]) d)→∃ d,forIn rest c f=pure d∧R l d
 | pre,[],c,e,h0,_=>⟨c,rfl,by rw [e,List.append_nil];exact h0⟩
 | pre,x::rest,c,e,h0,h=>by
  obtain ⟨d,e1,r1⟩:=h pre x rest c e h0
  obtain ⟨d',e2,r2⟩:=forIn_by R (pre++[x]) rest d (by rw [e];simp) r1 h
  exact ⟨d',by rw [List.forIn_cons,e1,pure_bind];exact e2,r2⟩
theorem clos_get{scope:Scope}{env:Env}(h:∀ y,(y,NameKind.free)∈scope.names→∃ c,env.cells.lookup y=some c) :
  ∃ cl,closureFor scope env=pure cl∧(∀ y c,cl.lookup y=some c→env.cells.lookup y=some c)∧∀ y,(y,NameKind.free)∈scope.names→∃ c,cl.lookup y=some c:=by
 have key:=forIn_by (l:=scope.names) (be:=List (Str×Addr)) (f:=fun x r=>if (x.2==NameKind.free)=true then do let a ← cellOf env x.1;pure (ForInStep.yield ((x.1,a)::r)) else pure (ForInStep.yield r))
  (fun pre cs=>(∀ y c,cs.lookup y=some c→env.cells.lookup y=some c)∧∀ y,(y,NameKind.free)∈pre→∃ c,cs.lookup y=some c) [] scope.names [] (by simp)
  ⟨fun y c e=>by simp at e,fun y hy=>by simp at hy⟩ (by
   rintro pre ⟨n,k⟩ post cs e ⟨r1,r2⟩
   by_cases hk:k=NameKind.free
   ·subst hk
    obtain ⟨c,hc⟩:=h n (by rw [e];simp)
    refine ⟨(n,c)::cs,?_,fun y d q=>?_,fun y hy=>?_⟩
    ·have hco:cellOf env n=pure c:=by unfold cellOf;rw [hc]
     simp only [beq_self_eq_true,if_true,hco,pure_bind]
    ·by_cases hy:y=n
     ·subst hy
      rw [List.lookup_cons,beq_self_eq_true] at q
      cases q;exact hc
     ·have hb:(y==n)=false:=by simpa using hy
      rw [List.lookup_cons,hb] at q
      exact r1 y d q
    ·by_cases hn:y=n
     ·exact ⟨c,by rw [hn,List.lookup_cons,beq_self_eq_true]⟩
     ·have hb:(y==n)=false:=by simpa using hn
      rw [List.lookup_cons,hb]
      refine r2 y ?_
      rcases List.mem_append.mp hy with z | z
      ·exact z
      ·simp at z;exact absurd z hn
   ·refine ⟨cs,?_,r1,fun y hy=>r2 y ?_⟩
    ·have hb:(k==NameKind.free)=false:=by simpa using hk
     simp only [hb,Bool.false_eq_true,if_false]
    ·rcases List.mem_append.mp hy with z | z
     ·exact z
     ·simp at z;exact absurd z.2.symm hk)
 obtain ⟨cl,e,r⟩:=key
 refine ⟨cl,?_,r⟩
 have e':closureFor scope env=forIn scope.names ([]:List (Str×Addr)) (fun x r=>if (x.2==NameKind.free)=true then do let a ← cellOf env x.1;pure (ForInStep.yield ((x.1,a)::r)) else pure (ForInStep.yield r)):=by
  simp only [closureFor,bind_pure]
 rw [e',e]
noncomputable def Cx.cmp(X:Cx)(N:List Str)(scope:Scope)(cl:List (Str×Addr))(C:Addr)(s:Shared)(H:Hp)(fp:List Addr):Cx where
 prog:=X.prog
 w:=X.w
 K:=X.K
 mg:=X.mg
 base:=X.base
 A:=X.A
 N:=N
 s₀:=s
 H₀:=H
 env:=compEnvC scope cl C X.env
 outer:=X.stack
 stack:=X.stack
 ex:=fp
 fn:=fun _=>false
 calm:=X.calm
 pn:=[]
 xe:=fun _ _=>False
theorem look_map{names:List (Str×NameKind)}{q:Str→NameKind→Bool}{y:Str}:(names.map fun (n,k)=>if q n k=true then (n,NameKind.cell) else (n,k)).lookup y=(names.lookup y).map fun k=>if q y k=true then NameKind.cell else k:=by
 induction names with
 | nil=>rfl
 | cons p r ih =>
  obtain ⟨n,k⟩:=p
  rw [List.map_cons]
  by_cases hy:y=n
  ·subst hy
   by_cases hq:q y k=true
   ·simp [List.lookup_cons,hq]
   ·simp [List.lookup_cons,hq]
  ·have hb:(y==n)=false:=by simpa using hy
   by_cases hq:q n k=true
   ·simp only [hq,if_true,List.lookup_cons,hb];exact ih
   ·simp only [hq,Bool.false_eq_true,if_false,List.lookup_cons,hb];exact ih
section
variable{X:Cx}{pins:List (Addr×Obj)}{σ:St}{H:Hp}{s:Shared}{fp:List Addr}{scope:Scope}{cl:List (Str×Addr)}{N:List Str}{C:Addr}
structure CmpScope(X:Cx)(N:List Str)(scope:Scope):Prop where
 kind:scope.kind=.function
 nocell:∀ y∈scope.names,y.2≠.cell
 loc:∀ y∈scope.names,y.2=.local→scope.names.lookup y.1=some .local
 fre:∀ y,scope.names.lookup y=some .free→X.env.kindOf y=some .cell
 fre2:∀ y,(y,NameKind.free)∈scope.names→X.env.kindOf y=some .cell
 nd:N.Nodup
 at0:∀ y,scope.names.lookup y=some .free→(y,NameKind.free)∈scope.names
theorem cmp_ok(S:CmpScope X N scope)(I:Inv X pins σ H s)(hf:∀ b∈fp,FpOk X pins H b)(ho:∀ b∈fp,∃ o,s.heap.get? b=some o)(hcl:∀ y c,cl.lookup y=some c→X.env.cells.lookup y=some c)
  (hcf:∀ y,(y,NameKind.free)∈scope.names→∃ c,cl.lookup y=some c) (hC:s.heap.objs.size≤C):(X.cmp N scope cl C s H fp).Ok where
 mod:=I.ok.mod
 kind:=S.kind
 glob:=I.ok.glob
 blt:=I.ok.blt
 above:=hC
 inj:=fun x y c h1 h2=>I.ok.inj x y c (hcl x c h1) (hcl y c h2)
 has:=fun y hy=>by
  have hy':(relabel scope X.env).names.lookup y=some .cell∨(relabel scope X.env).names.lookup y=some .free:=hy
  have e:(relabel scope X.env).names.lookup y=(scope.names.lookup y).map fun k=>if (k==.free&&X.env.scope.kind==.function&&X.env.kindOf y==some .cell)=true then NameKind.cell else k :=
   look_map (q:=fun n k=>k==.free&&X.env.scope.kind==.function&&X.env.kindOf n==some .cell)
  rw [e] at hy'
  cases q:scope.names.lookup y with
  | none=>rw [q] at hy';simp at hy'
  | some k =>
   by_cases hk:k=NameKind.free
   ·subst hk
    exact hcf y (S.at0 y q)
   ·exfalso
    have hb:(k==NameKind.free)=false:=by simpa using hk
    rw [q] at hy'
    simp only [Option.map_some,hb,Bool.false_and,Bool.false_eq_true,if_false,Option.some.injEq] at hy'
    rcases hy' with z | z
    ·exact S.nocell _ (PySem.mem_of_lookup q) z
    ·exact hk z
 cab:=fun y c h _=>nomatch h
 hd:=I.ok.hd
 frames:=I.ok.frames
 stk:=.inl rfl
 exf:=fun b hb=>by
  obtain ⟨o,e⟩:=ho b hb
  obtain ⟨_,_,_,_,f4,_⟩:=hf b hb
  exact ⟨Nat.ne_of_lt (Nat.lt_of_lt_of_le (Heap.lt_size e) hC),fun x c q=>f4 x c (hcl x c q)⟩
 bs:=I.bs
 bsz:=Nat.le_trans I.ok.bsz I.sz
 noex:=fun b o e hb=>by
  obtain ⟨_,_,_,f3,_,_⟩:=hf b hb
  rcases f3 with z | z
  ·exact I.ok.noex b o e z
  ·exact absurd (Nat.lt_of_lt_of_le (Heap.lt_size e) (Nat.le_trans I.ok.bsz z)) (Nat.lt_irrefl _)
 exfs:=fun b hb z=>by
  obtain ⟨_,f1,f2,_⟩:=hf b hb
  rcases List.mem_cons.mp (I.stkSub b z) with e | e
  ·exact f1 e
  ·exact f2 e
 funs:=I.stack
 frf:=I.stkFree
noncomputable def freeSt(k:Nat)(fr:List Nat)(σ:St):St:=List.replicate k none++fr.map fun i=>(σ[i]?).join
structure CmpFree(X:Cx)(N:List Str)(scope:Scope)(k:Nat)(fr:List Nat):Prop where
 len:N.length=k+fr.length
 at1:∀ (j i:Nat) (y:Str),fr[j]?=some i→N[k+j]?=some y→X.N[i]?=some y∧scope.names.lookup y=some .free
theorem cmp_start(S:CmpScope X N scope){k:Nat}{fr:List Nat}(F:CmpFree X N scope k fr)(I:Inv X pins σ H s)(hf:∀ b∈fp,FpOk X pins H b)(ho:∀ b∈fp,∃ o,s.heap.get? b=some o)
  (hcl:∀ y c,cl.lookup y=some c→X.env.cells.lookup y=some c) (hcf:∀ y,(y,NameKind.free)∈scope.names→∃ c,cl.lookup y=some c) (hC:s.heap.objs.size≤C)
  {s1:Shared} {m:Str→Option Value} {D:Addr} {oD:Obj} (hos:s1.os=s.os) (hg:s1.gens=s.gens) (kp:∀ b o,s.heap.get? b=some o→s1.heap.get? b=some o) (hn:s1.heap.Ns C m)
  (hD:s1.heap.get? D=some oD) (hD0:s.heap.objs.size≤D) (hDC:D≠C) (hdc:∀ v,oD.data≠.cell v) :
  Inv (X.cmp N scope cl C s H fp) [(D,oD)] (freeSt k fr σ) H s1:=by
 have hfs:D∉frs X.stack:=fun z=>by
  obtain ⟨_,o,q,_⟩:=I.stack.mem z
  exact absurd (Nat.lt_of_lt_of_le (Heap.lt_size q) hD0) (Nat.lt_irrefl _)
 refine ⟨cmp_ok S I hf ho hcl hcf hC,hos,by rw [hg];exact I.bare,Un.kept kp,⟨m,hn,fun i x v e1 e2 e3=>?_⟩,fun y c e=>?_,I.hok.fresh hC,fun y c e=>I.freeC y c (hcl y c e),fun p hp=>?_,I.hok.kept kp,?_⟩
 ·-- a name that has a value is a free one
  unfold freeSt at e2
  by_cases hi:i<k
  ·rw [List.getElem?_append_left (by simpa using hi),List.getElem?_replicate] at e2
   split at e2 <;> cases e2
  ·obtain ⟨j,rfl⟩:∃ j,i=k+j:=⟨i - k,by omega⟩
   rw [List.getElem?_append_right (by simp),List.length_replicate,Nat.add_sub_cancel_left,List.getElem?_map] at e2
   cases q:fr[j]? with
   | none=>rw [q] at e2;cases e2
   | some i' =>
    rw [q] at e2
    have e2':(σ[i']?).join=some v:=Option.some.inj e2
    obtain ⟨a1,a2⟩:=F.at1 j i' x q e1
    have hk:=S.fre x a2
    obtain ⟨m0,hn0,hl0⟩:=I.loc
    have hv:σ[i']?=some (some v):=by
     cases z:σ[i']? with
     | none=>rw [z] at e2';cases e2'
     | some w=>rw [z] at e2';rw [show w=some v from e2']
    obtain ⟨u,r,l⟩:=hl0 i' x v a1 hv (.inr (.inl hk))
    refine ⟨u,r,.inr ⟨.inl ?_,?_⟩⟩
    ·show (relabel scope X.env).names.lookup x=some .cell
     have e:(relabel scope X.env).names.lookup x=(scope.names.lookup x).map fun k=>if (k==.free&&X.env.scope.kind==.function&&X.env.kindOf x==some .cell)=true then NameKind.cell else k :=
      look_map (q:=fun n k=>k==.free&&X.env.scope.kind==.function&&X.env.kindOf n==some .cell)
     rw [e,a2,hk,I.ok.kind]
     rfl
    ·obtain ⟨c,hc⟩:=hcf x (S.at0 x a2)
     refine ⟨c,hc,?_⟩
     rcases l with ⟨z,_⟩ | ⟨_,c',hc',z⟩
     ·rw [hk] at z;cases z
     ·have ec:=hcl x c hc
      rw [hc'] at ec;cases ec
      obtain ⟨o,ho,hd⟩:=z
      exact ⟨o,kp _ _ ho,hd⟩
 ·obtain ⟨v,o,q,d⟩:=I.cell y c (hcl y c e)
  exact ⟨v,o,kp _ _ q,d⟩
 ·have hp':p=(D,oD):=by simpa [Cx.cmp] using hp
  subst hp'
  exact ⟨hD,I.hok.fresh hD0,hDC,hfs,hdc⟩
 ·unfold freeSt
  show _=N.length
  rw [List.length_append,List.length_replicate,List.length_map,F.len]
noncomputable abbrev lstO(its:List Value)(n:Nat):Obj:={cls:=.type "list",data:=.seq its.toArray n}
theorem cmp_back{σ':St}{H':Hp}{s':Shared}{D:Addr}{its:List Value}{n:Nat}{ys:List V}(I:Inv X pins σ H s)(hf:∀ b∈fp,FpOk X pins H b)(J:Inv (X.cmp N scope cl C s H fp) [(D,lstO its n)] σ' H' s')(r:Vals ys its)
  (hz:ys.length≤sizeLine) (hD0:s.heap.objs.size≤D):H' D=none∧Inv X pins σ (upd H' D (.lst ys)) s':=by
 obtain ⟨e1,hn,_,_,_⟩:=J.pin (D,lstO its n) (by simp [Cx.cmp])
 have e1:s'.heap.get? D=some (lstO its n):=e1
 have hn:H' D=none:=hn
 have u:=J.base
 have neD:∀ b o,s.heap.get? b=some o→b≠D:=fun b o q=>Nat.ne_of_lt (Nat.lt_of_lt_of_le (Heap.lt_size q) hD0)
 have u':Un (frs X.stack) fp H (upd H' D (.lst ys)) s.heap s'.heap :=
  ⟨u.keep,u.slot,fun b o q z hx=>by rw [upd_ne (neD b o q)];exact u.free b o q z hx,u.there,fun b xs q=>by rw [upd_ne (ne_of_none (u.tups b xs q) hn)];exact u.tups b xs q,
   fun b o x q=>by rw [upd_ne (ne_of_none (u.frzs b o x q) hn)];exact u.frzs b o x q,fun b ps q=>by
    obtain ⟨more,z⟩:=u.tbls b ps q
    exact ⟨more,by rw [upd_ne (ne_of_none z hn)];exact z⟩⟩
 have hok:HOk X.prog X.w (upd H' D (.lst ys)) s'.heap:=fun b o q=>by
  by_cases hb:b=D
  ·subst hb
   rw [upd_same] at q
   cases q
   exact ⟨hz,its,n,r,e1⟩
  ·rw [upd_ne hb] at q
   exact (J.hok b o q).stay (fun c v _ z=>z) (fun c z=>by rw [upd_ne (ne_of_none z hn)];exact z) fun c xs z=>by rw [upd_ne (ne_of_none z hn)];exact z
 refine ⟨hn,?_⟩
 have os:=J.os
 have bare:=J.bare
 obtain ⟨hh,g,d,t,os'⟩:=s'
 obtain rfl:os'=s.os:=os
 exact I.call (h':=hh) (g':=g) (d':=d) (t':=t) (ch:=fp) u' hok bare fun b hb=>by
  obtain ⟨_,f1,_,f3,f4,f5⟩:=hf b hb
  exact ⟨f3,f1,f4,f5⟩
end
end L2
namespace L2
open PySem PySem.Spec PyProof.Rows
noncomputable def PF(X:Cx)(ifs:List Expr)(t:TT):Prop :=
 ∀ (pins:List (Addr×Obj)) (s:Shared) (σ:St) (H:Hp) (Q:Bool→Hp→Prop),Inv X pins σ H s→t σ H Q→
  wpAny (model X.prog X.w) X.A (forIn ifs true fun c r=>if r=true then do let ok ← isTrue c X.env (eval c X.env);pure (ForInStep.yield ok) else pure (ForInStep.yield r)) (TP X pins σ Q) X.xe s
noncomputable def tTrue:TT:=fun _ H Q=>Q true H
theorem pf_nil{X:Cx}:PF X [] tTrue:=fun _ _ _ H _ I h=>wpAny_tests_nil ⟨H,I,h⟩
theorem pf_one{X:Cx}{c:Expr}{tc:TT}(hc:PT X c tc):PF X [c] tc:=fun pins s σ H Q I h=>wpAny_tests_one (hc pins s σ H Q I h)
section
variable{prog:Program}{w:World}{A:Around}
theorem noE{al:Type}{t:Sem al}{Q:al→Shared→Prop}{E:Value→Shared→Prop}{s:Shared}(h:wpAny (model prog w) A t Q (fun _ _=>False) s):wpAny (model prog w) A t Q E s :=
 wpAny_mono h (fun _ _ x=>x) fun _ _ f=>f.elim
theorem cmp_loop{R:Result→Shared→Prop}{s:Shared}{elt tg iter:Expr}{ifs:List Expr}{scope:Scope}{pos:Pos}{it acc:Value}{env:Env}(I:Nat→Shared→Prop)
  (turn:∀ n s,I n s→wpAny (model prog w) A (pyNext it) (fun r s1=>(r=none∧R (.ok .next) s1)∨∃ v,r=some v∧
   wpAny (model prog w) A (letOwnedTupleGo tg it v) (fun _ s2=>wpAny (model prog w) A (assign tg env v) (fun _ s3 =>
    wpAny (model prog w) A (forIn ifs true fun c r=>if r=true then do let ok ← isTrue c env (eval c env);pure (ForInStep.yield ok) else pure (ForInStep.yield r)) (fun ok s4 =>
     if ok=true then wpAny (model prog w) A (eval elt env) (fun x s5 =>
      wpAny (model prog w) A (call (.builtin "list.append") [acc,x]) (fun _ s6=>∃ m,m<n∧I m s6) (fun _ _=>False) s5) (fun _ _=>False) s4
     else ∃ m,m<n∧I m s4) (fun _ _=>False) s3) (fun _ _=>False) s2) (fun _ _=>False) s1) (fun _ _=>False) s)
  (n:Nat) (h:I n s):codeAny (model prog w) A (.compLoop (.ListComp elt [⟨tg,iter,ifs,0⟩] scope pos) 0 it acc env) R s:=by
 refine codeAny_loop rfl I (fun n s hI=>?_) n h
 show wpAny _ A ((compTurn (.ListComp elt [⟨tg,iter,ifs,0⟩] scope pos) 0 it acc env).onRaise (fun x=>do noteFrame x env;theTreesLotGoes x)) _ _ s
 refine wpAny_noted ?_
 rw [compTurn_list]
 refine wpAny_bind (wpAny_standAt (wpAny_bind (noE (thn (turn n s hI) fun r s1 h1=>?_))))
 rcases h1 with ⟨rfl,h1⟩ | ⟨v,rfl,h1⟩
 ·exact wpAny_pure h1
 ·refine wpAny_bind (noE (thn h1 fun _ s2 h2=>wpAny_bind (noE (thn h2 fun _ s3 h3=>wpAny_bind (noE (thn h3 fun ok s4 h4=>?_))))))
  cases ok with
  | false=>exact wpAny_pure ⟨rfl,h4⟩
  | true=>exact wpAny_bind (wpAny_bind (noE (thn h4 fun x s5 h5=>wpAny_bind (noE (thn h5 fun _ s6 h6=>wpAny_pure (wpAny_pure ⟨rfl,h6⟩))))))
end
noncomputable def GKeeps(k:Nat)(g:TG):Prop:=∀ v σ H Q,g v σ H Q→g v σ H fun σ2 H2=>(σ2.length=σ.length∧∀ i,k≤i→σ2[i]?=σ[i]?)∧Q σ2 H2
theorem gk_name{k i:Nat}(h:i<k):GKeeps k (gName i):=fun v σ H Q q=>⟨⟨List.length_set,fun j hj=>List.getElem?_set_ne (by omega)⟩,q⟩
noncomputable def tComp(k:Nat)(fr:List Nat)(wi:TI)(g:TG)(tc:TT)(te:TE):TE:=fun σ H Q=>wi σ H fun J H1=>∃ W:Nat→Nat→List V→Hp→Prop,(∃ m,W 0 m [] H1)∧∀ i m ys H,W i m ys H→
 (J.stop i H∧∀ D,H D=none→Q (.ref D) (upd H D (.lst ys)))∨
 (J.go i H∧ys.length<sizeLine∧∃ Nx:List V→Hp→Prop,(∀ ys' H',Nx ys' H'→∃ m',m'<m∧W (i+1) m' ys' H')∧
  ∀ x H',J.yld i H x H'→g x (freeSt k fr σ) H' fun σ2 H2=>tc σ2 H2 fun b H3=>if b=true then te σ2 H3 fun y H4=>Nx (ys++[y]) H4 else Nx ys H3)
section
variable{X:Cx}{pins:List (Addr×Obj)}{σ:St}{tg elt iter:Expr}{ifs:List Expr}{scope:Scope}{pos:Pos}{N:List Str}{k:Nat}{fr:List Nat}{wi:TI}{g:TG}{tc:TT}{te:TE}
theorem cmp_block(S:CmpScope X N scope)(F:CmpFree X N scope k fr)(hc:X.calm=true)
  (hg:∀ cl C s H fp,PG (X.cmp N scope cl C s H fp) tg g) (hk:GKeeps k g) (hi:∀ cl C s H fp,PF (X.cmp N scope cl C s H fp) ifs tc) (he:∀ cl C s H fp,PE (X.cmp N scope cl C s H fp) elt te)
  {s2:Shared} {it:Addr} {fp:List Addr} {tn:Nat→Heap→Prop} {J:It} {H2:Hp} (I:Inv X pins σ H2 s2) (T:Turn X.prog X.w X.K tg J fp it tn) (st:tn 0 s2.heap) (f2:∀ b∈fp,FpOk X pins H2 b)
  {W:Nat→Nat→List V→Hp→Prop} {m0:Nat} (w0:W 0 m0 [] H2) {Fin:List V→Hp→Prop}
  (turn:∀ i m ys H,W i m ys H→(J.stop i H∧Fin ys H)∨
   (J.go i H∧ys.length<sizeLine∧∃ Nx:List V→Hp→Prop,(∀ ys' H',Nx ys' H'→∃ m',m'<m∧W (i+1) m' ys' H')∧
    ∀ x H',J.yld i H x H'→g x (freeSt k fr σ) H' fun σ2 H2=>tc σ2 H2 fun b H3=>if b=true then te σ2 H3 fun y H4=>Nx (ys++[y]) H4 else Nx ys H3))
  {cl:List (Str×Addr)} (hcl:∀ y c,cl.lookup y=some c→X.env.cells.lookup y=some c) (hcf:∀ y,(y,NameKind.free)∈scope.names→∃ c,cl.lookup y=some c)
  {RR:Value→Addr→Result→Shared→Prop} {E:Value→Shared→Prop}
  (hRR:∀ D C s' its n ys H' σ',s2.heap.objs.size≤D→s2.heap.objs.size≤C→D≠C→Inv (X.cmp N scope cl C s2 H2 fp) [(D,lstO its n)] σ' H' s'→Vals ys its→ys.length≤sizeLine→Fin ys H'→RR (.ref D) C (.ok .next) s') :
  wpAny (model X.prog X.w) X.A (newList []) (fun acc s3=>wpAny (model X.prog X.w) X.A (newFunctionEnv scope X.env.globals cl [] X.env.qual none .none (some X.env)) (fun cenv s4 =>
   codeAny (model X.prog X.w) X.A (.compStart (.ListComp elt [⟨tg,iter,ifs,0⟩] scope pos) 0 (.ref it) acc {cenv with scope:=relabel scope X.env}) (RR acc cenv.locals) s4) E s3) E s2:=by
 refine wpAny_newObj_type (wpAny_newFunctionEnv S.nocell (by intro y hy;simp at hy) (fun h1 hns sb=>?_) S.kind)
 dsimp only at hns sb⊢
 generalize hG:s2.heap.push {cls:=.type "list",dict:=none,data:=.seq ([]:List Value).toArray}=G at hns sb⊢
 have hC:G.objs.size=s2.heap.objs.size+1:=by rw [← hG,Heap.size_push]
 have hDC:s2.heap.objs.size≠G.objs.size:=by rw [hC];exact Nat.ne_of_lt (Nat.lt_succ_self _)
 have old:∀ b o,s2.heap.get? b=some o→h1.get? b=some o:=fun b o e =>
  sb.extBut b o (by rw [hC];exact Nat.ne_of_lt (Nat.lt_succ_of_lt (Heap.lt_size e))) (Heap.get?_push_of_some _ (hG▸Heap.get?_push_of_some _ e))
 have hacc:h1.get? s2.heap.objs.size=some (lstO [] 0):=sb.extBut _ _ hDC (Heap.get?_push_of_some _ (hG▸Heap.get?_push_size _ rfl))
 have hfo:∀ b∈fp,∃ o,s2.heap.get? b=some o:=fun b hb=>let ⟨o,e,_⟩:=T.obj 0 _ st b hb;⟨o,e⟩
 have ltD:∀ b∈fp,b≠s2.heap.objs.size:=fun b hb=>let ⟨o,e⟩:=hfo b hb;Nat.ne_of_lt (Heap.lt_size e)
 generalize hX:X.cmp N scope cl G.objs.size s2 H2 fp=X'
 have I0:Inv X' [(s2.heap.objs.size,lstO [] 0)] (freeSt k fr σ) H2 {s2 with heap:=h1,toks:=s2.toks+([]:List (Str×Value)).length}:=by
  rw [← hX]
  exact cmp_start S F I f2 hfo hcl hcf (by rw [hC];exact Nat.le_succ _) rfl rfl old hns hacc (Nat.le_refl _) hDC fun v z=>by cases z
 have eP:X'.prog=X.prog:=by rw [← hX];rfl
 have eW:X'.w=X.w:=by rw [← hX];rfl
 have eK:X'.K=X.K:=by rw [← hX];rfl
 have eA:X'.A=X.A:=by rw [← hX];rfl
 have eC:X'.calm=true:=by rw [← hX];exact hc
 have eE:X'.env=compEnvC scope cl G.objs.size X.env:=by rw [← hX];rfl
 have eX:X'.xe=fun _ _=>False:=by rw [← hX];rfl
 have eF:X'.ex=fp:=by rw [← hX];rfl
 have eS:X'.s₀=s2:=by rw [← hX];rfl
 have ePn:X'.pn=[]:=by rw [← hX];rfl
 have T':Turn X'.prog X'.w X'.K tg J fp it tn:=by rw [eP,eW,eK];exact T
 have hg':PG X' tg g:=by rw [← hX];exact hg _ _ _ _ _
 have hi':PF X' ifs tc:=by rw [← hX];exact hi _ _ _ _ _
 have he':PE X' elt te:=by rw [← hX];exact he _ _ _ _ _
 have stat:∀ {o:Obj} {H':Hp},(∀ b∈fp,H' b=none)→∀ b∈fp,FpOk X' [(s2.heap.objs.size,o)] H' b:=fun {o H'} hn b hb=>by
  have ok:=I0.ok
  obtain ⟨z1,z2⟩:=ok.exf b (by rw [eF];exact hb)
  refine ⟨hn b hb,z1,ok.exfs b (by rw [eF];exact hb),.inl (by rw [eF];exact hb),z2,fun p hp=>?_⟩
  rw [ePn] at hp
  have hp':p=(s2.heap.objs.size,o):=by simpa using hp
  rw [hp']
  exact fun z=>ltD b hb z.symm
 -- back to the block's first names
 have back:∀ {pl:List (Addr×Obj)} {σ6:St} {H6:Hp} {s6:Shared},Inv X' pl σ6 H6 s6→(σ6.length=(freeSt k fr σ).length∧∀ i,k≤i→σ6[i]?=(freeSt k fr σ)[i]?)→Inv X' pl (freeSt k fr σ) H6 s6:=fun {pl σ6 H6 s6} I6 ⟨l1,l2⟩ =>
  I6.weak l1.symm fun i v e=>by
   by_cases hik:i<k
   ·unfold freeSt at e
    rw [List.getElem?_append_left (by simpa using hik),List.getElem?_replicate] at e
    split at e <;> cases e
   ·rw [l2 i (by omega)];exact e
 have loop:codeAny (model X.prog X.w) X.A (.compLoop (.ListComp elt [⟨tg,iter,ifs,0⟩] scope pos) 0 (.ref it) (.ref s2.heap.objs.size) (compEnvC scope cl G.objs.size X.env))
   (RR (.ref s2.heap.objs.size) G.objs.size) {s2 with heap:=h1,toks:=s2.toks+([]:List (Str×Value)).length}:=by
  rw [← eP,← eW,← eA,← eE]
  refine cmp_loop (fun n s'=>∃ i ys its nn H',Inv X' [(s2.heap.objs.size,lstO its nn)] (freeSt k fr σ) H' s'∧Vals ys its∧ys.length≤sizeLine∧tn i s'.heap∧(∀ b∈fp,H' b=none)∧W i n ys H') ?_ m0
   ⟨0,[],[],0,H2,I0,.nil,Nat.zero_le _,T.keep _ _ _ st fun b _ o e=>old b o e,fun b hb=>(f2 b hb).1,w0⟩
  rintro n s' ⟨i,ys,its,nn,H',I',rv,hz,st',fr',w'⟩
  rcases turn i n ys H' w' with ⟨stop,fin⟩ | ⟨go,hlt,Nx,hN,step⟩
  ·refine thn (T'.done X' rfl rfl rfl eC i _ s' _ H' _ I' (stat fr') st' stop) fun r s1 ⟨hr,I1⟩=>.inl ⟨hr,?_⟩
   rw [← hX] at I1
   exact hRR _ _ s1 its nn ys H' _ (Nat.le_refl _) (by rw [hC];exact Nat.le_succ _) hDC I1 rv hz fin
  ·refine thn (T'.item X' rfl rfl rfl eC i _ s' _ H' _ I' (stat fr') st' go) fun r s1 ⟨u,hr,h4⟩=>.inr ⟨u,hr,thn h4 fun _ s5 ⟨x,H5,I5,r5,y5,st5,fr5⟩=>?_⟩
   have I5':=I5.pinned (stat fr5) (T.obj _ _ st5)
   have hgx:=hg' _ s5 _ H5 x u _ I5' r5 (hk _ _ _ _ (step x H5 y5))
   rw [eX] at hgx
   refine thn hgx fun _ s6 ⟨σ6,H6,I6,l6,q6⟩=>?_
   have hix:=hi' _ s6 σ6 H6 _ I6 q6
   rw [eX] at hix
   have pinD:∀ {σ7:St} {H7:Hp} {s7:Shared},Inv X' ([(s2.heap.objs.size,lstO its nn)]++pinsAt fp s5.heap) σ7 H7 s7→s7.heap.get? s2.heap.objs.size=some (lstO its nn)∧H7 s2.heap.objs.size=none∧s2.heap.objs.size≠X'.env.locals:=fun I7=>by
    obtain ⟨z1,z2,z3,_⟩:=I7.pin (s2.heap.objs.size,lstO its nn) (List.mem_append_right _ (List.mem_append_left _ (by simp)))
    exact ⟨z1,z2,z3⟩
   have iter2:∀ {σ7:St} {H7:Hp} {s7:Shared},Inv X' ([(s2.heap.objs.size,lstO its nn)]++pinsAt fp s5.heap) σ7 H7 s7→tn (i+1) s7.heap∧∀ b∈fp,H7 b=none:=fun {σ7 H7 s7} I7 =>
    ⟨T.keep _ _ _ st5 fun b hb o e=>(I7.pin (b,o) (List.mem_append_right _ (List.mem_append_right _ (mem_pinsAt hb e)))).1,fun b hb=>by
     obtain ⟨o,e,d⟩:=T.obj _ _ st5 b hb
     exact (I7.pin (b,o) (List.mem_append_right _ (List.mem_append_right _ (mem_pinsAt hb e)))).2.1⟩
   refine thn hix fun ok s7 ⟨H7,I7,q7⟩=>?_
   cases ok with
   | false =>
    obtain ⟨m',hm,w7⟩:=hN _ _ (show Nx ys H7 from q7)
    obtain ⟨a1,a2⟩:=iter2 I7
    exact ⟨m',hm,i+1,ys,its,nn,H7,back I7.unpinned l6,rv,hz,a1,a2,w7⟩
   | true =>
    have hex:=he' _ s7 σ6 H7 _ I7 (show te σ6 H7 _ from q7)
    rw [eX] at hex
    refine thn hex fun v s8 ⟨y,H8,I8,r8,q8⟩=>?_
    obtain ⟨z1,z2,z3⟩:=pinD I8
    obtain ⟨a1,a2⟩:=iter2 I8
    obtain ⟨m',hm,w8⟩:=hN _ _ q8
    have hl:=rv.length
    refine append_at (hsz:=by show its.toArray.size≤sizeLine;rw [List.size_toArray];omega) z1 fun h9 sb9 hD9=>?_
    have I8':Inv X' (pinsAt fp s5.heap) (freeSt k fr σ) H8 s8:=(back I8 l6).pins_of fun p hp=>I8.pin p (List.mem_append_right _ (List.mem_append_right _ hp))
    have I9:Inv X' (pinsAt fp s5.heap) (freeSt k fr σ) H8 {s8 with heap:=h9}:=I8'.turned (t':=s8.toks) (it:=s2.heap.objs.size) (fun b o hb e=>(sb9.2 b hb).trans e) z2 z3 (.inr (by rw [eS];exact Nat.le_refl _))
     (fun y c e z=>by
      obtain ⟨v',q⟩:=I0.cell y c e
      have hcl':cl.lookup y=some c:=by rw [eE] at e;exact e
      obtain ⟨v2,q2⟩:=I.cell y c (hcl y c hcl')
      rw [z] at q2
      exact absurd q2.lt (Nat.lt_irrefl _))
     (fun p hp z=>by
      rw [ePn] at hp
      exact ltD p.1 (of_pinsAt hp).1 z)
    have I9':Inv X' [(s2.heap.objs.size,lstO (its++[v]) (nn+1))] (freeSt k fr σ) H8 {s8 with heap:=h9}:=I9.pins_of fun p hp=>by
     have hp':p=(s2.heap.objs.size,lstO (its++[v]) (nn+1)):=by simpa using hp
     rw [hp']
     refine ⟨?_,z2,z3,?_,fun v z=>by cases z⟩
     ·show h9.get? _=_
      rw [hD9]
      simp [lstO]
     ·exact (I8.pin (s2.heap.objs.size,lstO its nn) (List.mem_append_right _ (List.mem_append_left _ (by simp)))).2.2.2.1
    refine ⟨m',hm,i+1,ys++[y],its++[v],nn+1,H8,I9',rv.append (.cons r8 .nil),by rw [List.length_append];simp;omega,?_,a2,w8⟩
    exact T.keep _ _ _ a1 fun b hb o e=>(sb9.2 b (ltD b hb)).trans e
 exact codeAny_compStart_list loop (T.self _ 0 _ _ _ (T.keep _ _ _ st fun b _ o e=>old b o e) loop)
theorem cmp_off{s2 s':Shared}{fp:List Addr}{cl:List (Str×Addr)}{H2 H':Hp}{σ':St}{D C:Addr}{o:Obj}{u:HO}{h':Heap}{σ0:St}(I:Inv X pins σ H2 s2)(hC:s2.heap.objs.size≤C)(hDC:D≠C)
  (J:Inv (X.cmp N scope cl C s2 H2 fp) [(D,o)] σ' H' s') {s9:Shared} (I':Inv X pins σ0 (upd H' D u) s9) (sb:Heap.SameBut C s9.heap h'):Inv X pins σ0 (upd H' D u) {s9 with heap:=h'}:=by
 refine I'.turned (t':=s9.toks) (it:=C) (fun b o hb e=>(sb.2 b hb).trans e) (by rw [upd_ne (Ne.symm hDC)];exact J.free) (Nat.ne_of_gt (Nat.lt_of_lt_of_le I.lt hC)) (.inr (Nat.le_trans I.sz hC)) (fun y c e z=>?_) fun p hp z=>?_
 ·obtain ⟨v,q⟩:=I.cell y c e
  exact absurd (Nat.lt_of_lt_of_le q.lt (by rw [z];exact hC)) (Nat.lt_irrefl _)
 ·exact absurd (Nat.lt_of_lt_of_le (Heap.lt_size (I.pin p hp).1) (by rw [z];exact hC)) (Nat.lt_irrefl _)
theorem pe_comp(S:CmpScope X N scope)(F:CmpFree X N scope k fr)(hc:X.calm=true)(hit:PI X tg iter wi)
  (hg:∀ cl C s H fp,PG (X.cmp N scope cl C s H fp) tg g) (hk:GKeeps k g) (hi:∀ cl C s H fp,PF (X.cmp N scope cl C s H fp) ifs tc) (he:∀ cl C s H fp,PE (X.cmp N scope cl C s H fp) elt te)
  (hs:∀ x,foldedSetIterable iter X.env x=pure x:=by intro _;rfl):PE X (.ListComp elt [⟨tg,iter,ifs,0⟩] scope pos) (tComp k fr wi g tc te):=by
 intro pins s σ H Q I h
 rw [eval_ListComp]
 obtain ⟨cl,ecl,hcl,hcf⟩:=clos_get (scope:=scope) (env:=X.env) fun y hy=>I.ok.has y (.inl (S.fre2 y hy))
 refine wpAny_comprehension_free (use:=none) rfl hs ecl S.kind S.loc (thn (hit pins s σ H _ I h) fun v s1 h1=>thn h1 fun itv s2 h2=>?_)
 obtain ⟨it,fp,tn,J,H2,e,I2,T,st2,f2,W,⟨m0,w0⟩,turn⟩:=h2
 subst e
 refine cmp_block S F hc hg hk hi he I2 T st2 f2 w0 (Fin:=fun ys H'=>∀ D,H' D=none→Q (.ref D) (upd H' D (.lst ys))) turn hcl hcf (RR:=fun acc C=>compPost (model X.prog X.w) X.A X.xe none (EP X pins σ Q) acc C) ?_
 intro D C s' its n ys H' σ' hD hC hDC J' rv hz fin
 obtain ⟨hn,I'⟩:=cmp_back I2 f2 J' rv hz hD
 obtain ⟨m,hm,_⟩:=J'.loc
 exact ⟨m,hm,fun h' sb=>⟨.ref D,_,cmp_off I2 hC hDC J' I' sb,rfl,fin D hn⟩⟩
theorem ps_comp{i:Nat}{y:Str}{py spos:Pos}(hN:X.N.Nodup)(hi':X.N[i]?=some y)(hx:Loc X.env.scope y)(S:CmpScope X N scope)(F:CmpFree X N scope k fr)(hc:X.calm=true)(hit:PI X tg iter wi)
  (hg:∀ cl C s H fp,PG (X.cmp N scope cl C s H fp) tg g) (hk:GKeeps k g) (hi:∀ cl C s H fp,PF (X.cmp N scope cl C s H fp) ifs tc) (he:∀ cl C s H fp,PE (X.cmp N scope cl C s H fp) elt te)
  (hsw:swapsWith (.ListComp elt [⟨tg,iter,ifs,0⟩] scope pos) (some (.Name y py)) spos.line X.env=pure true)
  (hs:∀ x,foldedSetIterable iter X.env x=pure x:=by intro _;rfl) (hf:X.fn y=true∨X.env.scope.names.lookup y=some .local:=by first | exact .inl rfl | exact .inr rfl | assumption) :
  PS X (.Assign [.Name y py] (.ListComp elt [⟨tg,iter,ifs,0⟩] scope pos) spos) (tAsg (tComp k fr wi g tc te) (gName i)):=by
 intro pins s σ H D0 I h
 obtain ⟨cl,ecl,hcl,hcf⟩:=clos_get (scope:=scope) (env:=X.env) fun y hy=>I.ok.has y (.inl (S.fre2 y hy))
 rw [exec_Assign_Name_used _ _ _ _ hsw]
 refine wpAny_bind (wpAny_standAt (wpAny_bind ?_))
 show wpAny _ X.A (do let _ ← comprehension (.ListComp elt [⟨tg,iter,ifs,0⟩] scope pos) scope X.env _ (newList []) false (eval iter X.env) (some (assign (.Name y py) X.env))) _ _ s
 refine wpAny_bind (wpAny_mono (wpAny_comprehension_free (use:=some (assign (.Name y py) X.env)) (Q:=fun _ s'=>SP X pins D0 .next s') rfl hs ecl S.kind S.loc
  (thn (hit pins s σ H _ I h) fun v s1 h1=>thn h1 fun itv s2 h2=>?_)) (fun _ s' hq=>wpAny_pure (wpAny_pure hq)) fun _ _ e=>e)
 obtain ⟨it,fp,tn,J,H2,e,I2,T,st2,f2,W,⟨m0,w0⟩,turn⟩:=h2
 subst e
 refine cmp_block S F hc hg hk hi he I2 T st2 f2 w0 (Fin:=fun ys H'=>∀ D,H' D=none→D0.nx (σ.set i (some (.ref D))) (upd H' D (.lst ys))) turn hcl hcf
  (RR:=fun acc C=>compPost (model X.prog X.w) X.A X.xe (some (assign (.Name y py) X.env)) (fun _ s'=>SP X pins D0 .next s') acc C) ?_
 intro D C s' its n ys H' σ' hD hC hDC J' rv hz fin
 obtain ⟨hn,I'⟩:=cmp_back I2 f2 J' rv hz hD
 obtain ⟨m,hm,_⟩:=J'.loc
 show wpAny _ _ (assign (.Name y py) X.env (.ref D)) _ _ s'
 refine wpAny_assign_Name (store_ok2 I' hN hi' hx (v:=.ref D) rfl (fun s9 I9 ⟨a,sba,ha⟩=>?_) hf)
 have hCa:C≠a:=by
  rcases ha with z | z
  ·rw [z];exact Nat.ne_of_gt (Nat.lt_of_lt_of_le I2.lt hC)
  ·obtain ⟨v,q⟩:=I2.cell y a z
   exact fun z=>absurd (Nat.lt_of_lt_of_le q.lt (by rw [← z];exact hC)) (Nat.lt_irrefl _)
 exact ⟨m,hm.sameBut sba hCa,fun h' sb=>⟨_,_,cmp_off I2 hC hDC J' I9 sb,fin D hn⟩⟩
end
noncomputable def cmpOk(sc scope:Scope)(NX N:List Str)(k:Nat)(fr:List Nat):Bool :=
 scope.names.all (fun p=>p.2 != .cell)&&(scope.names.all (fun p=>p.2 != .local || scope.names.lookup p.1==some .local)&&(scope.names.all (fun p=>p.2 != .free || sc.names.lookup p.1==some .cell) &&
  (decide N.Nodup&&(N.length==k+fr.length&&(fr.zip (N.drop k)).all fun q=>NX[q.1]?==some q.2&&scope.names.lookup q.2==some .free))))
theorem cmpS{X:Cx}{sc scope:Scope}{NX N:List Str}{k:Nat}{fr:List Nat}(hX:X.env.scope=sc)(hk:scope.kind=.function)(h:cmpOk sc scope NX N k fr=true):CmpScope X N scope:=by
 unfold cmpOk at h
 simp only [Bool.and_eq_true,List.all_eq_true,decide_eq_true_eq] at h
 obtain ⟨h1,h2,h3,h4,h5,h6⟩:=h
 have f2:∀ y,(y,NameKind.free)∈scope.names→X.env.kindOf y=some .cell:=fun y hy=>by
  have:=h3 _ hy
  show X.env.scope.names.lookup y=some .cell
  rw [hX]
  simpa using this
 refine ⟨hk,fun y hy=>by simpa using h1 y hy,fun y hy e=>?_,fun y e=>f2 y (PySem.mem_of_lookup e),f2,h4,fun y e=>PySem.mem_of_lookup e⟩
 have:=h2 y hy
 rw [e] at this
 simpa using this
theorem cmpF{X:Cx}{sc scope:Scope}{NX N:List Str}{k:Nat}{fr:List Nat}(hN:X.N=NX)(h:cmpOk sc scope NX N k fr=true):CmpFree X N scope k fr:=by
 unfold cmpOk at h
 simp only [Bool.and_eq_true,List.all_eq_true,decide_eq_true_eq] at h
 obtain ⟨h1,h2,h3,h4,h5,h6⟩:=h
 refine ⟨by simpa using h5,fun j i y e1 e2=>?_⟩
 have hm:(i,y)∈fr.zip (N.drop k):=by
  refine List.mem_of_getElem? (i:=j) ?_
  rw [List.getElem?_zip_eq_some]
  exact ⟨e1,by rw [List.getElem?_drop];exact e2⟩
 have:=h6 _ hm
 rw [hN]
 simpa using this
section
variable{X:Cx}{elt iter:Expr}{ifs:List Expr}{scope:Scope}{pos px:Pos}{wi:TI}{tc:TT}{te:TE}{x:Str}
theorem cmp_nd{sc scope:Scope}{NX N:List Str}{k:Nat}{fr:List Nat}(h:cmpOk sc scope NX N k fr=true):N.Nodup:=by
 unfold cmpOk at h
 simp only [Bool.and_eq_true,decide_eq_true_eq] at h
 exact h.2.2.2.1
theorem pe_cmp1(sc:Scope)(NX:List Str)(fs:List Str)(fr:List Nat)(hc:X.calm=true)(hit:PI X (.Name x px) iter wi)(hi:∀ cl C s H fp,PF (X.cmp (x::fs) scope cl C s H fp) ifs tc)(he:∀ cl C s H fp,PE (X.cmp (x::fs) scope cl C s H fp) elt te)
  (ok:cmpOk sc scope NX (x::fs) 1 fr=true) (hX:X.env.scope=sc:=by rfl) (hN:X.N=NX:=by rfl) (hk:scope.kind=.function:=by rfl) (hx:scope.names.lookup x=some .local:=by rfl)
  (hs:∀ x,foldedSetIterable iter X.env x=pure x:=by intro _;rfl):PE X (.ListComp elt [⟨.Name x px,iter,ifs,0⟩] scope pos) (tComp 1 fr wi (gName 0) tc te) :=
 pe_comp (cmpS hX hk ok) (cmpF hN ok) hc hit (fun cl C s H fp=>pg_name (i:=0) (cmp_nd ok) rfl (Or.inl (lookup_relabel_local hx)) (.inr (lookup_relabel_local hx))) (gk_name (by decide)) hi he hs
theorem ps_cmp1(sc:Scope)(NX:List Str)(fs:List Str)(fr:List Nat){i:Nat}{y:Str}{py spos:Pos}(hNd:X.N.Nodup)(hi':X.N[i]?=some y)(hy:Loc X.env.scope y)(hc:X.calm=true)(hit:PI X (.Name x px) iter wi)
  (hi:∀ cl C s H fp,PF (X.cmp (x::fs) scope cl C s H fp) ifs tc) (he:∀ cl C s H fp,PE (X.cmp (x::fs) scope cl C s H fp) elt te)
  (ok:cmpOk sc scope NX (x::fs) 1 fr=true) (hsw:swapsWith (.ListComp elt [⟨.Name x px,iter,ifs,0⟩] scope pos) (some (.Name y py)) spos.line X.env=pure true)
  (hX:X.env.scope=sc:=by rfl) (hN:X.N=NX:=by rfl) (hk:scope.kind=.function:=by rfl) (hx:scope.names.lookup x=some .local:=by rfl)
  (hs:∀ x,foldedSetIterable iter X.env x=pure x:=by intro _;rfl) (hf:X.fn y=true∨X.env.scope.names.lookup y=some .local:=by first | exact .inl rfl | exact .inr rfl | assumption) :
  PS X (.Assign [.Name y py] (.ListComp elt [⟨.Name x px,iter,ifs,0⟩] scope pos) spos) (tAsg (tComp 1 fr wi (gName 0) tc te) (gName i)) :=
 ps_comp hNd hi' hy (cmpS hX hk ok) (cmpF hN ok) hc hit (fun cl C s H fp=>pg_name (i:=0) (cmp_nd ok) rfl (Or.inl (lookup_relabel_local hx)) (.inr (lookup_relabel_local hx))) (gk_name (by decide)) hi he hsw hs hf
end
theorem comp_range{lo:Int}{n:Nat}{G:V→Hp→(List V→Hp→Prop)→List V→Prop}{Fin:List V→Hp→Prop}{H:Hp}(Pv:Nat→List V→Hp→Prop)(h0:Pv 0 [] H)
  (hs:∀ i ys H,i<n→Pv i ys H→ys.length<sizeLine∧G (.int (lo+i)) H (Pv (i+1)) ys) (hd:∀ ys H,Pv n ys H→Fin ys H) :
  ∃ W:Nat→Nat→List V→Hp→Prop,(∃ m,W 0 m [] H)∧∀ i m ys H,W i m ys H→
   ((Itr lo n).stop i H∧Fin ys H)∨((Itr lo n).go i H∧ys.length<sizeLine∧∃ Nx:List V→Hp→Prop,(∀ ys' H',Nx ys' H'→∃ m',m'<m∧W (i+1) m' ys' H')∧∀ x H',(Itr lo n).yld i H x H'→G x H' Nx ys):=by
 refine ⟨fun i m ys H=>m=n - i∧i≤n∧Pv i ys H,⟨n,by simp,Nat.zero_le _,h0⟩,?_⟩
 rintro i m ys H ⟨rfl,hi,p⟩
 by_cases hlt:i<n
 ·obtain ⟨a1,a2⟩:=hs i ys H hlt p
  refine .inr ⟨hlt,a1,Pv (i+1),fun ys' H' p'=>⟨n - (i+1),by omega,rfl,hlt,p'⟩,fun x H' y=>?_⟩
  obtain ⟨e,y⟩:=y
  subst e y
  exact a2
 ·have e:i=n:=by omega
  subst e
  exact .inl ⟨Nat.le_refl _,hd ys H p⟩
theorem comp_list{K:PySem.W.Frag}{a:Addr}{xs:List V}{G:V→Hp→(List V→Hp→Prop)→List V→Prop}{Fin:List V→Hp→Prop}{H:Hp}(Pv:Nat→List V→Hp→Prop)(h0:Pv 0 [] H)(hl:∀ i ys H,i≤xs.length→Pv i ys H→SqL K H a xs)
  (hs:∀ i x ys H,xs[i]?=some x→Pv i ys H→ys.length<sizeLine∧G x H (Pv (i+1)) ys) (hd:∀ ys H,Pv xs.length ys H→Fin ys H) :
  ∃ W:Nat→Nat→List V→Hp→Prop,(∃ m,W 0 m [] H)∧∀ i m ys H,W i m ys H→
   ((Itl K a).stop i H∧Fin ys H)∨((Itl K a).go i H∧ys.length<sizeLine∧∃ Nx:List V→Hp→Prop,(∀ ys' H',Nx ys' H'→∃ m',m'<m∧W (i+1) m' ys' H')∧∀ x H',(Itl K a).yld i H x H'→G x H' Nx ys):=by
 refine ⟨fun i m ys H=>m=xs.length - i∧i≤xs.length∧Pv i ys H,⟨xs.length,by simp,Nat.zero_le _,h0⟩,?_⟩
 rintro i m ys H ⟨rfl,hi,p⟩
 have q:=hl i ys H hi p
 by_cases hlt:i<xs.length
 ·obtain ⟨a1,a2⟩:=hs i xs[i] ys H (by simp [hlt]) p
  refine .inr ⟨⟨xs,xs[i],q,by simp [hlt]⟩,a1,Pv (i+1),fun ys' H' p'=>⟨xs.length - (i+1),by omega,rfl,hlt,p'⟩,fun x H' y=>?_⟩
  obtain ⟨e,y⟩:=y
  subst e
  have hx:=y xs q
  rw [show xs[i]?=some xs[i] by simp [hlt]] at hx
  cases hx
  exact a2
 ·have e:i=xs.length:=by omega
  subst e
  exact .inl ⟨⟨xs,q,Nat.le_refl _⟩,hd ys H p⟩
end L2
namespace L2
open PySem PySem.Spec PyProof.Rows
section
variable{X:Cx}
theorem call_isi:CallR X (.builtin "isinstance") (fun xs H Q=>∃ x t c b,xs=[x,.ty c]∧TyOf X.K H x t∧PySem.W.kitOne X.K t (.type c)=some b∧Q (.bl b) H):=by
 intro pins s σ H xs us Q I r h
 obtain ⟨x,t,c,b,rfl,ty,e,q⟩:=h
 obtain ⟨u,v,rfl,rx,ry⟩:=vals2 r
 cases ry
 exact isinst_ok I rx ty e fun tk=>⟨.bl b,H,I.tok tk,rfl,q⟩
theorem seen{pins:List (Addr×Obj)}{σ:St}{H:Hp}{s:Shared}{l:Addr}{h':Heap}{tk:Nat}(I:Inv X pins σ H s)(hk:∀ b o,b∉[s.heap.objs.size]→(s.heap.push {cls:=.type "list_iterator",data:=.fields #[.ref l,.int 0 0]}).get? b=some o→h'.get? b=some o) :
  Inv X pins σ H {s with heap:=h',toks:=tk}:=I.kept (old_kept hk)
theorem all_range{bs:List Bool}:((List.range bs.length).all fun i=>(bs[i]?).getD true)=bs.all id:=by
 induction bs with
 | nil=>rfl
 | cons b r ih =>
  rw [List.length_cons,List.range_succ_eq_map,List.all_cons,List.all_map,List.all_cons]
  congr 1
theorem call_all(hc:X.calm=true):CallR X (.builtin "all") (fun xs H Q=>∃ (p:Addr) (bs:List Bool),xs=[.ref p]∧SqL X.K H p (bs.map V.bl)∧Q (.bl (bs.all id)) H):=by
 intro pins s σ H xs us Q I r h
 obtain ⟨p,bs,rfl,hq,q⟩:=h
 obtain ⟨u,rfl,rx⟩:=vals1 r
 cases rx
 obtain ⟨its,rv,pl,hz⟩:=I.list hq
 have hl:=pl.isList
 have hlt:p<s.heap.objs.size:=by obtain ⟨_,e,_⟩:=hl;exact Heap.lt_size e
 have hn:its.toArray.size=bs.length:=by rw [List.size_toArray,← rv.length,List.length_map]
 refine call_all_walk (wpAny_pyIter_list hl ?_)
 refine ⟨_,_,_,_,_,_,fun i=>(bs[i]?).getD true,rfl,Walks.list (A:=X.A.in1) (I.ok.hd hc) s.heap.objs.size p (Nat.ne_of_lt hlt) its.toArray,⟨⟨_,Heap.get?_push_size _ rfl,rfl,rfl⟩,hl.push _⟩,?_,fun h' tk hk=>?_⟩
 ·intro i v s' Q' E' hP hQ
  have hv:its[i]?=some v:=by simpa using hP
  cases eb:bs[i]? with
  | none =>
   have:=rv.none_of (i:=i) (by rw [List.getElem?_map,eb];rfl)
   rw [this] at hv;cases hv
  | some b =>
   obtain ⟨u,hu,ru⟩:=rv.get (i:=i) (x:=.bl b) (by rw [List.getElem?_map,eb];rfl)
   rw [hu] at hv;cases hv
   cases ru
   refine wpAny_truthy_bool ?_
   have e:(bs[i]?).getD true=b:=by rw [eb];rfl
   rw [← e];exact hQ
 ·rw [hn,all_range]
  exact ⟨.bl _,H,(show Inv X pins σ H {s with heap:=h',toks:=tk} from seen I hk),rfl,q⟩
theorem pre_take(ns:List Int):∀ k,k≤ns.length→preSum (fun i=>(ns[i]?).getD 0) k=(ns.take k).sum
 | 0,_=>by simp [preSum]
 | k+1,h=>by
  have e:ns[k]?=some (ns[k]'(by omega)):=by simp
  rw [preSum,pre_take ns k (by omega),List.take_add_one,e,List.sum_append]
  simp
noncomputable def DatV(P:Program)(w:World)(H:Hp)(x:V)(d:PyData):Prop:=∀ (h:Heap) (v:Value),HOk P w H h→RelV x v→∃ as,Reads h v d as
section
variable{P:Program}{w:World}{H:Hp}
theorem datI(i:Int):DatV P w H (.int i) (.int i):=fun h v _ r=>by obtain ⟨t,rfl⟩:=r;exact ⟨_,.int i t⟩
theorem dats{h:Heap}(ok:HOk P w H h){xs:List V}{its:List Value}{ds:List PyData}(a:Vals xs its)(b:Paired (DatV P w H) xs ds):∃ as,ReadsAll h its ds as:=by
 induction a generalizing ds with
 | nil=>cases b;exact ⟨_,.nil⟩
 | cons r t ih =>
  cases b with
  | cons q u =>
   obtain ⟨as,h1⟩:=q _ _ ok r
   obtain ⟨bs,h2⟩:=ih u
   exact ⟨_,.cons h1 h2⟩
theorem datL{a:Addr}{xs:List V}{ds:List PyData}(e:H a=some (.lst xs))(r:Paired (DatV P w H) xs ds):DatV P w H (.ref a) (.list ds):=fun h v ok rv=>by
 cases rv
 obtain ⟨_,its,n,rs,e1⟩:=ok a _ e
 obtain ⟨as,h1⟩:=dats ok rs r
 exact ⟨_,.list e1 rfl rfl (by simpa using h1)⟩
theorem datT{a:Addr}{xs:List V}{ds:List PyData}(e:H a=some (.tup xs))(r:Paired (DatV P w H) xs ds):DatV P w H (.ref a) (.tuple ds):=fun h v ok rv=>by
 cases rv
 obtain ⟨_,its,rs,o,e1,c,n,d⟩:=ok a _ e
 obtain ⟨as,h1⟩:=dats ok rs r
 exact ⟨_,.tuple e1 c d (by simpa using h1)⟩
theorem datIs:∀ ns:List Int,Paired (DatV P w H) (ns.map V.int) (ns.map PyData.int)
 | []=>.nil
 | n::r=>.cons (datI n) (datIs r)
end
theorem lays:∀ ns:List Int,PyData.canLayAll0 (ns.map PyData.int)=true
 | []=>rfl
 | n::r=>by
  rw [List.map_cons,PyData.canLayAll0,lays r]
  rfl
theorem depths:∀ ns:List Int,PyData.depthAll (ns.map PyData.int)=0
 | []=>rfl
 | n::r=>by
  rw [List.map_cons,PyData.depthAll,depths r]
  rfl
noncomputable def rEqD(P:Program)(w:World)(neg:Bool):R2:=fun x y H Q=>∃ dx dy,DatV P w H x dx∧DatV P w H y dy∧(dx.canLay0=true∧dy.canLay0=true∧dx.depth≤60)∧Q (.bl (if neg=true then !PyData.eqv dx dy else PyData.eqv dx dy)) H
theorem op_eqD(hu:X.A.units+64<cLine):OpR X (compareOp .Eq) (rEqD X.prog X.w false):=by
 intro pins s σ H x y v u Q I rx ry h
 obtain ⟨dx,dy,h1,h2,⟨c1,c2,c3⟩,q⟩:=h
 obtain ⟨as,r1⟩:=h1 _ _ I.hok rx
 obtain ⟨bs,r2⟩:=h2 _ _ I.hok ry
 refine SeqAt.compareEq_reads r1 r2 c1 c2 ?_ ⟨.bl _,H,I,rfl,q⟩
 have:min dx.depth dy.depth≤dx.depth:=Nat.min_le_left _ _
 omega
theorem op_neD(hu:X.A.units+64<cLine):OpR X (compareOp .NotEq) (rEqD X.prog X.w true):=by
 intro pins s σ H x y v u Q I rx ry h
 obtain ⟨dx,dy,h1,h2,⟨c1,c2,c3⟩,q⟩:=h
 obtain ⟨as,r1⟩:=h1 _ _ I.hok rx
 obtain ⟨bs,r2⟩:=h2 _ _ I.hok ry
 refine SeqAt.compareNe_reads r1 r2 c1 c2 ?_ ⟨.bl _,H,I,rfl,q⟩
 have:min dx.depth dy.depth≤dx.depth:=Nat.min_le_left _ _
 omega
theorem eq_self{P:Program}{w:World}{neg:Bool}{x y:V}{H:Hp}{Q:VK}{d:PyData}(h1:DatV P w H x d)(h2:DatV P w H y d)(c1:d.canLay0=true)(c2:d.depth≤60)(q:Q (.bl (!neg)) H):rEqD P w neg x y H Q:=by
 refine ⟨d,d,h1,h2,⟨c1,c1,c2⟩,?_⟩
 rw [SeqAt.eqv_refl d c1]
 cases neg <;> exact q
end
end L2
namespace L2
open PySem PySem.Spec PyProof.Rows
theorem no_len_rev:typeLookup (.type "list_reverseiterator") "__len__"=pure none:=by rw [typeLookup_type,builtinLookup_eq_fast];kernel_rfl
theorem hint_rev:typeLookup (.type "list_reverseiterator") "__length_hint__"=pure (some (.builtin "list_reverseiterator.__length_hint__")):=by rw [typeLookup_type,builtinLookup_eq_fast];kernel_rfl
theorem sub_lri_self:isSubtype (.type "list_reverseiterator") (.type "list_reverseiterator")=pure true:=by rw [isSubtype_type];kernel_rfl
section
variable{prog:Program}{w:World}{A:Around}{s:Shared}
theorem no_room_rev{E:Value→Shared→Prop}{J l:Addr}{i:Int}{Q:Bool→Shared→Prop}(hit:s.heap.IsRevIter J l i)(h:Q false s):wpAny (model prog w) A (Builtin.List.listLengthHint (.ref J)) Q E s:=by
 unfold Builtin.List.listLengthHint
 refine wpAny_bind (wpAny_specialOf hit.typeIs no_len_rev ?_)
 show wpAny _ A (specialOf (Value.ref J) (Str.ofString "__length_hint__")>>=_) _ _ _
 refine wpAny_bind (wpAny_specialOf hit.typeIs hint_rev ?_)
 generalize hid:("list_reverseiterator.__length_hint__":String)=id0
 wp_delta
 rw [show splitId id0=some ("list_reverseiterator","__length_hint__") from by subst hid;decide +kernel]
 subst hid
 refine wpAny_bind (wpAny_isInstance (T:="list_reverseiterator") (b:=true) hit.typeIs sub_lri_self ?_)
 refine wpAny_ite_split (fun hab=>absurd hab (by decide)) (fun _=>?_)
 refine wpAny_ite_split (fun _=>?_) (fun hab=>absurd (by decide +kernel) hab)
 refine wpAny_ite_split (fun hab=>absurd hab (by decide +kernel)) (fun _=>?_)
 exact wpAny_pure h
theorem extend_rev{R:Result→Shared→Prop}{J l:Addr}{items:Array Value}(hh:A.handled=none)(hne:l≠J)(hit:s.heap.IsRevIter J l ((items.size:Int) - 1))(hl:s.heap.IsList l items)(hz:items.size≤sizeLine)(S:Addr)(res:Value)(c0:Nat)
  (hS:s.heap.get? S=some {cls:=.type "list",data:=.seq #[] c0}) (hSJ:S≠J) (hSl:S≠l)
  (hR:∀ h' tk acc c',(∀ b o,b≠S→b≠J→s.heap.get? b=some o→h'.get? b=some o)→h'.get? S=some {cls:=.type "list",dict:=none,data:=.seq acc c',slots:=#[]}→
   ItemsOf (fun i v=>items[items.size - 1 - i]?=some v) acc items.size→R (.ok (.ret res)) {s with heap:=h',toks:=tk}) :
  wpAny (model prog w) A.in1 (Builtin.List.listExtendWith (.ref S) (.ref J) res)
   (fun fin s'=>match fin with | .done f=>R (.ok f) s' | .again c'=>c'.quiet=true∧codeAny (model prog w) A c' R s') (fun e s'=>R (.error e) s') s:=by
 have W:=(Walks.listRev (prog:=prog) (w:=w) (A:=A.in1) hh J l hne items).toS
 have hSf:S∉[J,l]:=fun hm=>by
  rcases List.mem_cons.mp hm with e | hm
  ·exact hSJ e
  ·exact hSl (by simpa using hm)
 unfold Builtin.List.listExtendWith
 refine wpAny_bind (wpAny_typeOf hit.typeIs ?_)
 have h1:Builtin.List.listSameRef (.ref S) (.ref J)=false:=by simp [Builtin.List.listSameRef,hSJ]
 have h2:(Value.type "list_reverseiterator"==Value.type "list")=false:=by decide
 have h3:(Value.type "list_reverseiterator"==Value.type "tuple")=false:=by decide
 simp only [h1,h2,h3,Bool.or_false,Bool.false_eq_true,if_false]
 refine wpAny_bind (wpAny_pyIter_revIter hit ?_)
 refine wpAny_bind (wpAny_holding (no_room_rev hit ?_))
 refine wpAny_ite_split (fun hab=>absurd hab (by decide)) (fun _=>?_)
 refine wpAny_pure ⟨plainId_quiet F.plain_extend_loop _,?_⟩
 refine codeAny_extend_loopS W hz S hSf res items.size 0 s #[] c0 rfl (Nat.zero_le _) ⟨Nat.zero_le _,by simpa using hit,hl⟩ hS (ItemsOf.nil _) fun s' acc' c' hm hS' hacc=>?_
 rw [Moved.eq_with hm]
 refine hR s'.heap s'.toks acc' c' (fun b o hb hb2 e=>hm.heap b o (fun z=>?_) e) hS' hacc
 rcases List.mem_cons.mp z with z | z
 ·exact hb z
 ·exact hb2 (by simpa using z)
theorem init_rev{R:Result→Shared→Prop}{J l:Addr}{items:Array Value}(hh:A.handled=none)(hne:l≠J)(hit:s.heap.IsRevIter J l ((items.size:Int) - 1))(hl:s.heap.IsList l items)(hz:items.size≤sizeLine)(S:Addr)
  (hS:s.heap.get? S=some {cls:=.type "list",data:=.seq #[]}) (hSJ:S≠J) (hSl:S≠l)
  (hR:∀ h' tk acc c',(∀ b o,b≠S→b≠J→s.heap.get? b=some o→h'.get? b=some o)→h'.get? S=some {cls:=.type "list",dict:=none,data:=.seq acc c',slots:=#[]}→
   ItemsOf (fun i v=>items[items.size - 1 - i]?=some v) acc items.size→R (.ok (.ret .none)) {s with heap:=h',toks:=tk}) :
  wpAny (model prog w) A.in1 (Builtin.«list.__init__» ⟨[.ref S,.ref J],[]⟩)
   (fun fin s'=>match fin with | .done f=>R (.ok f) s' | .again c'=>c'.quiet=true∧codeAny (model prog w) A c' R s') (fun e s'=>R (.error e) s') s:=by
 show wpAny _ _ (do let old ← Builtin.List.listItems (.ref S);Builtin.List.listUpdate (.ref S) (fun _=>#[]);letGo old.toList.reverse;Builtin.List.listExtendWith (.ref S) (.ref J) .none) _ _ s
 refine wpAny_bind ?_
 unfold Builtin.List.listItems
 refine wpAny_bind (wpAny_seqItems hS rfl (wpAny_pure ?_))
 show wpAny _ _ (updateSeq S (fun _=>#[])>>=fun _=>letGo (#[]:Array Value).toList.reverse>>=fun _=>Builtin.List.listExtendWith (.ref S) (.ref J) .none) _ _ s
 refine wpAny_bind (wpAny_updateSeq hS rfl ?_)
 have g2:=Heap.get?_update_self (Obj.mapSeq (fun _=>(#[]:Array Value))) hS rfl
 have oth:∀ b o,b≠S→s.heap.get? b=some o→(s.heap.update S (Obj.mapSeq (fun _=>(#[]:Array Value)))).get? b=some o :=
  fun b o hb e=>(Heap.get?_update_other _ _ (Ne.symm hb)).trans e
 refine wpAny_bind (wpAny_letGo ?_)
 refine extend_rev hh hne (hit.at fun o e=>oth J o (Ne.symm hSJ) e) (hl.at fun o e=>oth l o (Ne.symm hSl) e) hz S .none _ g2 hSJ hSl fun h' tk acc' c' hk hS' hacc=>?_
 exact hR h' tk acc' c' (fun b o hb hb2 e=>hk b o hb hb2 (oth b o hb e)) hS' hacc
theorem list_rev{E:Value→Shared→Prop}{Q:Value→Shared→Prop}{J l:Addr}{items:Array Value}(hh:A.handled=none)(hne:l≠J)(hit:s.heap.IsRevIter J l ((items.size:Int) - 1))(hl:s.heap.IsList l items)(hz:items.size≤sizeLine)
  (hQ:∀ h' tk acc c',(∀ b o,b≠J→s.heap.get? b=some o→h'.get? b=some o)→h'.get? s.heap.objs.size=some {cls:=.type "list",dict:=none,data:=.seq acc c',slots:=#[]}→
   ItemsOf (fun i v=>items[items.size - 1 - i]?=some v) acc items.size→Q (.ref s.heap.objs.size) {s with heap:=h',toks:=tk}) :
  wpAny (model prog w) A (call (.type "list") [.ref J]) Q E s:=by
 have ltJ:J<s.heap.objs.size:=by obtain ⟨o,e,_⟩:=hit;exact Heap.lt_size e
 have ltl:l<s.heap.objs.size:=by obtain ⟨o,e,_⟩:=hl;exact Heap.lt_size e
 refine callType_codes (Q₁:=fun obj s1=>obj=.ref s.heap.objs.size∧s1={s with heap:=s.heap.push {cls:=.type "list",data:=.seq #[]}}) F.called_list (F.typeCall_list_1 _) F.entry_list_init
  (code_list_new _ ⟨rfl,rfl⟩) fun obj s1 h1=>?_
 obtain ⟨rfl,rfl⟩:=h1
 have hS:(s.heap.push {cls:=.type "list",data:=.seq #[]}).get? s.heap.objs.size=some {cls:=.type "list",data:=.seq #[]}:=Heap.get?_push_size _ rfl
 refine ⟨⟨_,hS,rfl⟩,F.args_list_init_2 _ _,init_rev (A:=A.in1) hh hne (hit.at fun o e=>Heap.get?_push_of_some _ e) (hl.at fun o e=>Heap.get?_push_of_some _ e) hz _ hS (Nat.ne_of_gt ltJ) (Nat.ne_of_gt ltl) fun h' tk acc' c' hk hS' hacc=>?_⟩
 exact ⟨rfl,hQ h' tk acc' c' (fun b o hb e=>hk b o (Nat.ne_of_lt (Heap.lt_size e)) hb (Heap.get?_push_of_some _ e)) hS' hacc⟩
end
section
variable{X:Cx}{e:Expr}{te:TE}
noncomputable def tLRev(K:PySem.W.Frag)(te:TE):TE:=fun σ H Q=>te σ H fun x H1=>∃ a xs,x=.ref a∧SqL K H1 a xs∧∀ p,H1 p=none→Q (.ref p) (upd H1 p (.lst xs.reverse))
theorem items_rev{its:List Value}{acc:Array Value}(h:ItemsOf (fun i v=>its.toArray[its.toArray.size - 1 - i]?=some v) acc its.toArray.size):acc.toList=its.reverse:=by
 obtain ⟨h0,h2⟩:=h
 have h1:acc.size=its.length:=by rw [h0];simp
 apply List.ext_getElem?
 intro i
 by_cases hi:i<acc.size
 ·have e:=h2 i acc[i] (by simp [hi])
  have e':its[its.length - 1 - i]?=some acc[i]:=by simpa using e
  rw [List.getElem?_reverse (by omega),e']
  simp [hi]
 ·rw [List.getElem?_eq_none (by simpa using hi),List.getElem?_eq_none (by rw [List.length_reverse];omega)]
theorem pe_lrev{p1 p2 q1 q2:Pos}(hc:X.calm=true)(hm1:X.mg "list"=none)(hm2:X.mg "reversed"=none)(hg1:Gl X "list")(hg2:Gl X "reversed")(he:PE X e te)(h1:starEach [e] X.env=[(false,eval e X.env)]:=by rfl) :
  PE X (.Call (.Name "list" p1) [.Call (.Name "reversed" p2) [e] [] q2] [] q1) (tLRev X.K te):=by
 intro pins s σ H Q I h
 refine wpAny_Call_Name_kw (ld_blt I hg1 hm1 boot_list ?_)
 refine PyProof.Rows.callWith_type1 ?_ rfl rfl
 show wpAny _ _ (spliced ((false,eval (.Call (.Name "reversed" p2) [e] [] q2) X.env)::backTo q1 (starEach [] X.env))) _ _ s
 refine Calls.spliced_cons ?_
 refine wpAny_Call_Name_kw (ld_blt I hg2 hm2 boot_reversed ?_)
 refine PyProof.Rows.callWith_type1 ?_ h1 rfl
 rw [h1]
 show wpAny _ _ (spliced ((false,eval e X.env)::backTo q2 (starEach [] X.env))) _ _ s
 refine Calls.spliced_cons (thn (he pins s σ H _ I h) fun u s1 ⟨x,H1,I1,r1,q1⟩=>?_)
 obtain ⟨a,xs,rfl,hq,q⟩:=q1
 cases r1
 obtain ⟨its,rv,pl,hz⟩:=I1.list hq
 have hl:=pl.isList
 have hlen:=rv.length
 have ltl:a<s1.heap.objs.size:=by obtain ⟨o,e,_⟩:=hl;exact Heap.lt_size e
 refine Calls.spliced_nil ?_
 refine call_reversed_list hl ?_
 refine Calls.spliced_nil ?_
 refine list_rev (items:=its.toArray) (I1.ok.hd hc) (Nat.ne_of_lt ltl) ⟨_,Heap.get?_push_size _ rfl,rfl,rfl⟩ (hl.at fun o e=>Heap.get?_push_of_some _ e) (by rw [List.size_toArray];omega) fun h' tk acc c' hk hS hacc=>?_
 have eS:(s1.heap.push (revObj a ((its.toArray.size:Int) - 1))).objs.size=s1.heap.objs.size+1:=Heap.size_push ..
 have hnew:s1.heap.objs.size≤(s1.heap.push (revObj a ((its.toArray.size:Int) - 1))).objs.size:=by rw [eS];exact Nat.le_succ _
 have ea:=items_rev hacc
 refine ⟨.ref _,_,I1.laid (t':=tk) (o:=.lst xs.reverse) (fun b o e=>hk b o (Nat.ne_of_lt (Heap.lt_size e)) (Heap.get?_push_of_some _ e)) hnew ⟨by rw [List.length_reverse];exact hz,its.reverse,c',rv.reverse,?_⟩,rfl,q _ (I1.hok.fresh hnew)⟩
 rw [hS,← ea]
end
end L2
namespace L2
open PySem PySem.Spec PyProof.Rows
section
variable{X:Cx}{pins:List (Addr×Obj)}{σ:St}{H:Hp}{s:Shared}{h':Heap}
theorem Inv.turnedNew{ch:List Addr}{T:Addr}{o:HO}{t':Nat}(I:Inv X pins σ H s)(k:∀ b u,b∉ch→s.heap.get? b=some u→h'.get? b=some u)(hf:∀ b∈ch,FpOk X pins H b)(hT:s.heap.objs.size≤T)
  (new:ObjOk X.prog X.w (upd H T o) h' T o):Inv X pins σ (upd H T o) {s with heap:=h',toks:=t'}:=by
 have hn:=I.hok.fresh hT
 have lt:∀ b u,s.heap.get? b=some u→b≠T:=fun b u e=>Nat.ne_of_lt (Nat.lt_of_lt_of_le (Heap.lt_size e) hT)
 have tr:∀ b u,H b=some u→b∉ch:=fun b u e hb=>by
  obtain ⟨f0,_⟩:=hf b hb
  rw [e] at f0;cases f0
 refine I.step (g':=s.gens) (d':=s.drawn) (ch:=ch) (fun b hb=>?_) (fun b u _ _ hc e _=>k b u hc e) (fun b u _ _ hc e _=>⟨u.slots,k b u hc e⟩) (fun b u _ e n=>by rw [upd_ne (lt b u e)];exact n)
  (fun b u hc e=>⟨u,k b u hc e⟩) (fun b xs e=>by rw [upd_ne (ne_of_none e hn)];exact e) (fun b u x e=>by rw [upd_ne (ne_of_none e hn)];exact e) (fun b ps e=>⟨#[],by rw [upd_ne (ne_of_none e hn),e];simp⟩) (fun m hm=>?_) (fun b u e=>?_) I.bare
 ·obtain ⟨_,f1,_,f3,f4,f5⟩:=hf b hb
  exact ⟨f3,f1,f4,f5⟩
 ·obtain ⟨u,es,ep,hu,r⟩:=hm
  exact ⟨u,es,ep,k _ u (fun z=>(hf _ z).2.1 rfl) hu,r⟩
 ·by_cases hb:b=T
  ·subst hb
   rw [upd_same] at e;cases e
   exact new
  ·rw [upd_ne hb] at e
   refine (I.hok b u e).stay (fun c v hc q=>k c v ?_ q) (fun c q=>by rw [upd_ne (ne_of_none q hn)];exact q) fun c xs q=>by rw [upd_ne (ne_of_none q hn)];exact q
   rcases hc with rfl | hc
   ·exact tr _ _ e
   ·exact tr _ _ hc
theorem Inv.turnedL{ch:List Addr}{t':Nat}(I:Inv X pins σ H s)(k:∀ b u,b∉ch→s.heap.get? b=some u→h'.get? b=some u)(hf:∀ b∈ch,FpOk X pins H b):Inv X pins σ H {s with heap:=h',toks:=t'}:=by
 have tr:∀ b u,H b=some u→b∉ch:=fun b u e hb=>by
  obtain ⟨f0,_⟩:=hf b hb
  rw [e] at f0;cases f0
 refine I.step (g':=s.gens) (d':=s.drawn) (ch:=ch) (fun b hb=>?_) (fun b u _ _ hc e _=>k b u hc e) (fun b u _ _ hc e _=>⟨u.slots,k b u hc e⟩) (fun _ _ _ _ n=>n)
  (fun b u hc e=>⟨u,k b u hc e⟩) (fun _ _ e=>e) (fun _ _ _ e=>e) (fun b ps e=>⟨#[],by rw [e];simp⟩) (fun m hm=>?_) (fun b u e=>?_) I.bare
 ·obtain ⟨_,f1,_,f3,f4,f5⟩:=hf b hb
  exact ⟨f3,f1,f4,f5⟩
 ·obtain ⟨u,es,ep,hu,r⟩:=hm
  exact ⟨u,es,ep,k _ u (fun z=>(hf _ z).2.1 rfl) hu,r⟩
 ·refine (I.hok b u e).stay (fun c v hc q=>k c v ?_ q) (fun _ q=>q) fun _ _ q=>q
  rcases hc with rfl | hc
  ·exact tr _ _ e
  ·exact tr _ _ hc
end
noncomputable def Ite(K:PySem.W.Frag)(a:Addr):It :=
 ⟨fun i H=>∃ xs x,SqL K H a xs∧xs[i]?=some x,fun i H v H'=>∃ t x,v=.ref t∧H t=none∧(∀ xs,SqL K H a xs→xs[i]?=some x)∧H'=upd H t (.tup [.int i,x]),fun i H=>∃ xs,SqL K H a xs∧xs.length≤i⟩
theorem turn_enum{P:Program}{w:World}{K:PySem.W.Frag}{elts:List Expr}{x1}{pos:Pos}(a e it:Addr)(hne:e≠it):Turn P w K (.Tuple elts x1 pos) (Ite K a) [e,it] e (fun i h=>(∃ old,IsEnum h e it i old)∧h.IsListIter it a i) where
 mem:=by simp
 obj:=fun i h st b hb=>by
  obtain ⟨⟨old,h1⟩,o,h2,_,d⟩:=st
  rcases List.mem_cons.mp hb with rfl | hb
  ·exact ⟨_,h1,fun v z=>by cases z⟩
  ·have z:b=it:=by simpa using hb
   subst z
   exact ⟨o,h2,fun v z=>by rw [d] at z;cases z⟩
 keep:=fun i h h' st k=>by
  obtain ⟨⟨old,h1⟩,h2⟩:=st
  exact ⟨⟨old,k e (by simp) _ h1⟩,h2.at fun o q=>k it (by simp) o q⟩
 item:=by
  intro X hP hw hK hc i pins s σ H E I hf st hg
  subst hP hw hK
  obtain ⟨⟨old,h1⟩,h2⟩:=st
  obtain ⟨xs,x,hq,hx⟩:=hg
  obtain ⟨its,rv,p,hz⟩:=I.list hq
  obtain ⟨u,hu,ru⟩:=rv.get hx
  have e1:=Heap.lt_size h1
  refine wpAny_pyNext_enum_item h1 h2 p.isList (x:=u) (by simpa using hu) hne fun h' g1 g2 g3 g4 g5=>⟨_,rfl,?_⟩
  refine wpAny_letOwnedTupleGo_enum g1 fun h2' g6 g7=>?_
  have kk:∀ b o,b∉[e,it]→s.heap.get? b=some o→h2'.get? b=some o:=fun b o hb q=>g7.extBut b o (fun z=>hb (by simp [z])) (g5 b o (fun z=>hb (by simp [z])) (fun z=>hb (by simp [z])) q)
  have tT:h2'.get? s.heap.objs.size=some {cls:=.type "tuple",data:=.seq #[.int i s.toks,u]}:=g7.extBut _ _ (Nat.ne_of_gt e1) g3
  have I1:=I.turnedNew (t':=s.toks+1) (T:=s.heap.objs.size) (o:=.tup [.int i,x]) kk hf (Nat.le_refl _) ⟨by show 2≤sizeLine;decide,[.int i s.toks,u],.cons ⟨_,rfl⟩ (.cons ru .nil),⟨_,tT,rfl,_,rfl⟩⟩
  have hn:H s.heap.objs.size=none:=I.hok.fresh (Nat.le_refl _)
  refine ⟨.ref s.heap.objs.size,_,I1,rfl,⟨_,x,rfl,hn,fun ys hy=>by rw [I.list_inj hy hq];exact hx,rfl⟩,⟨⟨u,?_⟩,?_⟩,fun b hb=>?_⟩
  ·have z:((i+1:Nat):Int)=(i:Int)+1:=by omega
   rw [z];exact g6
  ·exact g2.extBut g7.extBut (Ne.symm hne)
  ·obtain ⟨f0,_⟩:=hf b hb
   obtain ⟨o,q⟩:∃ o,s.heap.get? b=some o:=by
    rcases List.mem_cons.mp hb with rfl | hb
    ·exact ⟨_,h1⟩
    ·have z:b=it:=by simpa using hb
     obtain ⟨o,q,_⟩:=h2
     exact ⟨o,by rw [z];exact q⟩
   rw [upd_ne (Nat.ne_of_lt (Heap.lt_size q))];exact f0
 done:=by
  intro X hP hw hK hc i pins s σ H E I hf st hg
  subst hP hw hK
  obtain ⟨⟨old,h1⟩,h2⟩:=st
  obtain ⟨xs,hq,hx⟩:=hg
  obtain ⟨its,rv,p,hz⟩:=I.list hq
  have hl:=rv.length
  exact wpAny_pyNext_enum_end (I.ok.hd hc) h1 h2 p.isList (by simp;omega) fun h' eb=>⟨rfl,I.turnedL (t':=s.toks) (ch:=[e,it]) (fun b o hb q=>eb b o (fun z=>hb (by simp [z])) q) hf⟩
 self:=fun _ _ _ _ _ st h=>by
  obtain ⟨⟨old,h1⟩,h2⟩:=st
  have hT:Shared.TypeIs _ (.ref e) "enumerate":=⟨_,h1,rfl⟩
  refine wpAny_pyIter_slot hT F.slot_enumerate_iter (wpAny_call_entry F.slot_enumerate_iter hT F.entry_enumerate_iter ?_ (F.args_enumerate_iter_1 _))
  show wpAny _ _ (ret (.ref e)) _ _ _
  exact wpAny_pure ⟨_,rfl,"enumerate",_,hT,F.slot_enumerate_next.lookup,h⟩
noncomputable def Itz(K:PySem.W.Frag)(a b:Addr):It :=
 ⟨fun i H=>∃ xs ys x y,SqL K H a xs∧SqL K H b ys∧xs[i]?=some x∧ys[i]?=some y,
  fun i H v H'=>∃ t x y,v=.ref t∧H t=none∧(∀ xs,SqL K H a xs→xs[i]?=some x)∧(∀ ys,SqL K H b ys→ys[i]?=some y)∧H'=upd H t (.tup [x,y]),
  fun i H=>∃ xs ys,SqL K H a xs∧SqL K H b ys∧(xs.length≤i∨ys.length≤i)⟩
theorem turn_zip{P:Program}{w:World}{K:PySem.W.Frag}{elts:List Expr}{x1}{pos:Pos}(a b z TI TO i1 i2:Addr)(D:ZipApart z TI TO i1 i2 a b):Turn P w K (.Tuple elts x1 pos) (Itz K a b) [z,TI,TO,i1,i2] z
  (fun i h=>IsZip h z TI TO .none∧IsPair h TI (.ref i1) (.ref i2)∧(∃ u v,IsPair h TO u v)∧h.IsListIter i1 a i∧h.IsListIter i2 b i) where
 mem:=by simp
 obj:=fun i h st c hb=>by
  obtain ⟨h1,h2,⟨u,v,h3⟩,⟨o4,h4,_,d4⟩,⟨o5,h5,_,d5⟩⟩:=st
  simp only [List.mem_cons,List.not_mem_nil,or_false] at hb
  rcases hb with rfl | rfl | rfl | rfl | rfl
  ·exact ⟨_,h1,fun v z=>by cases z⟩
  ·exact ⟨_,h2,fun v z=>by cases z⟩
  ·exact ⟨_,h3,fun v z=>by cases z⟩
  ·exact ⟨o4,h4,fun v z=>by rw [d4] at z;cases z⟩
  ·exact ⟨o5,h5,fun v z=>by rw [d5] at z;cases z⟩
 keep:=fun i h h' st k=>by
  obtain ⟨h1,h2,⟨u,v,h3⟩,h4,h5⟩:=st
  exact ⟨k z (by simp) _ h1,k TI (by simp) _ h2,⟨u,v,k TO (by simp) _ h3⟩,h4.at fun o q=>k i1 (by simp) o q,h5.at fun o q=>k i2 (by simp) o q⟩
 item:=by
  intro X hP hw hK hc i pins s σ H E I hf st hg
  subst hP hw hK
  obtain ⟨h1,h2,⟨u0,v0,h3⟩,h4,h5⟩:=st
  obtain ⟨xs,ys,x,y,hqa,hqb,hx,hy⟩:=hg
  obtain ⟨its,rv,p,hz⟩:=I.list hqa
  obtain ⟨jts,rw',p',hz'⟩:=I.list hqb
  obtain ⟨u,hu,ru⟩:=rv.get hx
  obtain ⟨v,hv,rv'⟩:=rw'.get hy
  have e1:=Heap.lt_size h1
  have fpo:∀ c∈[z,TI,TO,i1,i2],∃ o,s.heap.get? c=some o:=fun c hb=>by
   obtain ⟨o4,q4,_⟩:=h4
   obtain ⟨o5,q5,_⟩:=h5
   simp only [List.mem_cons,List.not_mem_nil,or_false] at hb
   rcases hb with rfl | rfl | rfl | rfl | rfl
   ·exact ⟨_,h1⟩
   ·exact ⟨_,h2⟩
   ·exact ⟨_,h3⟩
   ·exact ⟨_,q4⟩
   ·exact ⟨_,q5⟩
  refine wpAny_pyNext_zip_item D h1 h2 h3 h4 h5 p.isList p'.isList (x:=u) (y:=v) (by simpa using hu) (by simpa using hv) fun h' g1 g2 g3 g4 g5 g6 g7=>⟨_,rfl,?_⟩
  refine wpAny_letOwnedTupleGo_zip g1 fun h2' g8 g9=>?_
  have kk:∀ c o,c∉[z,TI,TO,i1,i2]→s.heap.get? c=some o→h2'.get? c=some o:=fun c o hb q =>
   g9.extBut c o (fun q=>hb (by simp [q])) (g7 c o (fun q=>hb (by simp [q])) (fun q=>hb (by simp [q])) (fun q=>hb (by simp [q])) (fun q=>hb (by simp [q])) q)
  have tT:h2'.get? s.heap.objs.size=some {cls:=.type "tuple",data:=.seq #[u,v]}:=g9.extBut _ _ (Nat.ne_of_gt e1) g5
  have I1:=I.turnedNew (t':=s.toks) (T:=s.heap.objs.size) (o:=.tup [x,y]) kk hf (Nat.le_refl _) ⟨by show 2≤sizeLine;decide,[u,v],.cons ru (.cons rv' .nil),⟨_,tT,rfl,_,rfl⟩⟩
  have hn:H s.heap.objs.size=none:=I.hok.fresh (Nat.le_refl _)
  refine ⟨.ref s.heap.objs.size,_,I1,rfl,⟨_,x,y,rfl,hn,fun zs hy'=>by rw [I.list_inj hy' hqa];exact hx,fun zs hy'=>by rw [I.list_inj hy' hqb];exact hy,rfl⟩,⟨g8,?_,⟨u,v,?_⟩,?_,?_⟩,fun c hb=>?_⟩
  ·exact g9.extBut _ _ D.TIz (g7 _ _ D.TIz D.TITO D.TIi1 D.TIi2 h2)
  ·exact g9.extBut _ _ D.TOz g2
  ·exact g3.extBut g9.extBut D.i1z
  ·exact g4.extBut g9.extBut D.i2z
  ·obtain ⟨f0,_⟩:=hf c hb
   obtain ⟨o,q⟩:=fpo c hb
   rw [upd_ne (Nat.ne_of_lt (Heap.lt_size q))];exact f0
 done:=by
  intro X hP hw hK hc i pins s σ H E I hf st hg
  subst hP hw hK
  obtain ⟨h1,h2,⟨u0,v0,h3⟩,h4,h5⟩:=st
  obtain ⟨xs,ys,hqa,hqb,hx⟩:=hg
  obtain ⟨its,rv,p,hz⟩:=I.list hqa
  obtain ⟨jts,rw',p',hz'⟩:=I.list hqb
  have hl:=rv.length
  have hl':=rw'.length
  refine wpAny_pyNext_zip_end (I.ok.hd hc) D h1 h2 h3 h4 h5 p.isList p'.isList ?_ fun h' eb=>⟨rfl,I.turnedL (t':=s.toks) (ch:=[z,TI,TO,i1,i2]) (fun c o hb q=>eb c o (fun q=>hb (by simp [q])) (fun q=>hb (by simp [q])) (fun q=>hb (by simp [q])) (fun q=>hb (by simp [q])) q) hf⟩
  rcases hx with hx | hx
  ·exact .inl (by simp;omega)
  ·exact .inr (by simp;omega)
 self:=fun _ _ _ _ _ st h=>wpAny_pyIter_zip st.1 h
section
variable{X:Cx}{l l2:Expr}{tl tl2:TE}{elts:List Expr}{p pos tpos:Pos}
noncomputable def iEnum(K:PySem.W.Frag)(tl:TE):TI:=fun σ H R=>tl σ H fun x H1=>∃ a,x=.ref a∧(∃ xs,SqL K H1 a xs)∧R (Ite K a) H1
theorem pi_enum{x1}(hg:Gl X "enumerate")(hm:X.mg "enumerate"=none)(hl:PE X l tl)(hs:starEach [l] X.env=[(false,eval l X.env)]:=by rfl):PI X (.Tuple elts x1 tpos) (.Call (.Name "enumerate" p) [l] [] pos) (iEnum X.K tl):=by
 intro pins s σ H R I h
 refine Call_ (ld_blt I hg hm boot_enumerate (PyProof.Rows.callWith_type1 ?_ hs rfl))
 rw [hs]
 show wpAny _ _ (spliced ((false,eval l X.env)::backTo pos (starEach [] X.env))) _ _ s
 refine Calls.spliced_cons (thn (hl pins s σ H _ I h) fun u s1 ⟨x,H1,I1,r1,q1⟩=>Calls.spliced_nil ?_)
 obtain ⟨a,rfl,⟨xs,hq⟩,q⟩:=q1
 cases r1
 obtain ⟨its,rv,pl,hz⟩:=I1.list hq
 refine call_enumerate_list pl.isList fun h' g1 g2 g3 g4=>?_
 have T:=turn_enum (P:=X.prog) (w:=X.w) (K:=X.K) (elts:=elts) (x1:=x1) (pos:=tpos) a (s1.heap.objs.size+1) s1.heap.objs.size (Nat.ne_of_gt (Nat.lt_succ_self _))
 refine T.self _ 0 _ _ _ ⟨⟨_,g1⟩,g2⟩ ?_
 refine ⟨s1.heap.objs.size+1,_,_,_,H1,rfl,I1.kept (t':=s1.toks) g4,T,⟨⟨_,g1⟩,g2⟩,fun b hb=>?_,q⟩
 have hb':s1.heap.objs.size≤b:=by
  rcases List.mem_cons.mp hb with rfl | hb
  ·exact Nat.le_succ _
  ·have z:b=s1.heap.objs.size:=by simpa using hb
   rw [z];exact Nat.le_refl _
 exact I1.fpOk hb' (I1.hok.fresh hb')
noncomputable def iZip(K:PySem.W.Frag)(tl tl2:TE):TI:=fun σ H R=>tl σ H fun x H1=>tl2 σ H1 fun y H2=>∃ a b,x=.ref a∧y=.ref b∧(∃ xs,SqL K H2 a xs)∧(∃ ys,SqL K H2 b ys)∧R (Itz K a b) H2
theorem pi_zip{x1}(hg:Gl X "zip")(hm:X.mg "zip"=none)(hl:PE X l tl)(hl2:PE X l2 tl2)(hs:starEach [l,l2] X.env=[(false,eval l X.env),(false,eval l2 X.env)]:=by rfl)(hs2:starEach [l2] X.env=[(false,eval l2 X.env)]:=by rfl) :
  PI X (.Tuple elts x1 tpos) (.Call (.Name "zip" p) [l,l2] [] pos) (iZip X.K tl tl2):=by
 intro pins s σ H R I h
 refine Call_ (ld_blt I hg hm boot_zip (PyProof.Rows.callWith_type1 ?_ (by rw [hs,hs2]) (by rw [hs2];rfl)))
 rw [hs]
 show wpAny _ _ (spliced ((false,eval l X.env)::(false,eval l2 X.env)::backTo pos (starEach [] X.env))) _ _ s
 refine Calls.spliced_cons (thn (hl pins s σ H _ I h) fun u s1 ⟨x,H1,I1,r1,q1⟩=>Calls.spliced_cons (thn (hl2 pins s1 σ H1 _ I1 q1) fun u2 s2 ⟨y,H2,I2,r2,q2⟩=>Calls.spliced_nil ?_))
 obtain ⟨a,b,rfl,rfl,⟨xs,hqa⟩,⟨ys,hqb⟩,q⟩:=q2
 cases r1
 cases r2
 obtain ⟨its,rv,pl,hz⟩:=I2.list hqa
 obtain ⟨jts,rv',pl',hz'⟩:=I2.list hqb
 have la:a<s2.heap.objs.size:=by obtain ⟨_,e,_⟩:=pl.isList;exact Heap.lt_size e
 have lb:b<s2.heap.objs.size:=by obtain ⟨_,e,_⟩:=pl'.isList;exact Heap.lt_size e
 refine call_zip_2 pl.isList pl'.isList fun h' g1 g2 g3 g4 g5 g6 g7=>?_
 have D:ZipApart (s2.heap.objs.size+4) (s2.heap.objs.size+2) (s2.heap.objs.size+3) s2.heap.objs.size (s2.heap.objs.size+1) a b:=zipApart_new la lb
 have T:=turn_zip (P:=X.prog) (w:=X.w) (K:=X.K) (elts:=elts) (x1:=x1) (pos:=tpos) a b _ _ _ _ _ D
 refine T.self _ 0 _ _ _ ⟨g1,g2,⟨_,_,g3⟩,g4,g5⟩ ?_
 refine ⟨s2.heap.objs.size+4,_,_,_,H2,rfl,I2.kept (t':=s2.toks) g7,T,⟨g1,g2,⟨_,_,g3⟩,g4,g5⟩,fun c hb=>?_,q⟩
 have hb':s2.heap.objs.size≤c:=by
  simp only [List.mem_cons,List.not_mem_nil,or_false] at hb
  rcases hb with rfl | rfl | rfl | rfl | rfl
  ·exact Nat.le_add_right _ _
  ·exact Nat.le_add_right _ _
  ·exact Nat.le_add_right _ _
  ·exact Nat.le_refl _
  ·exact Nat.le_add_right _ _
 exact I2.fpOk hb' (I2.hok.fresh hb')
end
theorem for_enum{K:PySem.W.Frag}{a:Addr}{xs:List V}{g:TG}{tb:TS}{D:Ends}{σ:St}{H:Hp}(Pv:Nat→St→Hp→Prop)(h0:Pv 0 σ H)(hl:∀ i σ H,i≤xs.length→Pv i σ H→SqL K H a xs)
  (hs:∀ i x σ H t,xs[i]?=some x→Pv i σ H→H t=none→g (.ref t) σ (upd H t (.tup [.int i,x])) fun σ2 H2=>tb {D with nx:=Pv (i+1),ct:=Pv (i+1),bk:=D.nx} σ2 H2) (hd:∀ σ H,Pv xs.length σ H→D.nx σ H) :
  ∃ W:Nat→Nat→St→Hp→Prop,(∃ m,W 0 m σ H)∧∀ i m σ H,W i m σ H→
   ((Ite K a).stop i H∧D.nx σ H)∨((Ite K a).go i H∧∃ N:St→Hp→Prop,(∀ σ' H',N σ' H'→∃ m',m'<m∧W (i+1) m' σ' H')∧∀ x H',(Ite K a).yld i H x H'→g x σ H' fun σ2 H2=>tb {D with nx:=N,ct:=N,bk:=D.nx} σ2 H2):=by
 refine ⟨fun i m σ H=>m=xs.length - i∧i≤xs.length∧Pv i σ H,⟨xs.length,by simp,Nat.zero_le _,h0⟩,?_⟩
 rintro i m σ H ⟨rfl,hi,p⟩
 have q:=hl i σ H hi p
 by_cases hlt:i<xs.length
 ·refine .inr ⟨⟨xs,xs[i],q,by simp [hlt]⟩,Pv (i+1),fun σ' H' p'=>⟨xs.length - (i+1),by omega,rfl,hlt,p'⟩,fun v H' y=>?_⟩
  obtain ⟨t,x,rfl,ht,y1,rfl⟩:=y
  exact hs i x σ H t (y1 xs q) p ht
 ·have e:i=xs.length:=by omega
  subst e
  exact .inl ⟨⟨xs,q,Nat.le_refl _⟩,hd σ H p⟩
end L2
namespace Ma
noncomputable def ups(b n L:Nat):List Nat:=(List.range L).map fun j=>n / b ^ j % b
noncomputable def dws(b n L i:Nat):List Nat:=(List.range i).map fun j=>n / b ^ (L - 1 - j) % b
theorem ups_succ(b n i:Nat):ups b n (i+1)=ups b n i++[n / b ^ i % b]:=by
 unfold ups;rw [List.range_succ,List.map_append];rfl
theorem dws_succ(b n L i:Nat):dws b n L (i+1)=dws b n L i++[n / b ^ (L - 1 - i) % b]:=by
 unfold dws;rw [List.range_succ,List.map_append];rfl
theorem ups_len(b n L:Nat):(ups b n L).length=L:=by simp [ups]
theorem dws_len(b n L i:Nat):(dws b n L i).length=i:=by simp [dws]
theorem ups_rev(b n L:Nat):(ups b n L).reverse=dws b n L L:=by
 apply List.ext_getElem
 ·simp [ups,dws]
 ·intro i h1 h2
  simp [ups,dws]
theorem div_up(b n i:Nat):n / b ^ i / b=n / b ^ (i+1):=by rw [Nat.div_div_eq_div_mul,Nat.pow_succ]
theorem sum_le6:∀ (ps:List Nat),(∀ p∈ps,1≤p∧p≤6)→ps.length≤ps.sum∧ps.sum≤6*ps.length
 | [],_=>by simp
 | p::r,h=>by
  have h1:=h p (by simp)
  have h2:=sum_le6 r fun q hq=>h q (List.mem_cons_of_mem _ hq)
  simp only [List.sum_cons,List.length_cons]
  omega
theorem sum_cast:∀ (ps:List Nat),(ps.map fun (p:Nat)=>(p:Int)).sum=((ps.sum:Nat):Int)
 | []=>rfl
 | p::r=>by simp [sum_cast r]
end Ma
namespace Ma
noncomputable def cuts:List Nat→List Int→List (List Int)
 | [],_=>[]
 | p::ps,xs=>xs.take p::cuts ps (xs.drop p)
noncomputable def psums(ps:List Nat)(xs:List Int):List Int:=(cuts ps xs).map List.sum
noncomputable def ends:Nat→List Nat→List Nat
 | _,[]=>[]
 | o,p::ps=>(o+p)::ends (o+p) ps
theorem psums_len(ps:List Nat)(xs:List Int):(psums ps xs).length=ps.length:=by
 unfold psums
 rw [List.length_map]
 induction ps generalizing xs with
 | nil=>rfl
 | cons p ps ih=>simp [cuts,ih]
end Ma
namespace Ma
noncomputable def wts(b n L:Nat)(ws:List Int):List Int:=List.zipWith (fun (d:Nat) (x:Int)=>(d:Int)*x) (dws b n L L) ws
theorem wts_len(b n L:Nat)(ws:List Int)(h:ws.length=L):(wts b n L ws).length=L:=by
 unfold wts;rw [List.length_zipWith,dws_len,h,Nat.min_self]
theorem dws_lt{b n L d:Nat}(hb:0<b)(h:d∈dws b n L L):d<b:=by
 unfold dws at h
 obtain ⟨j,_,rfl⟩:=List.mem_map.mp h
 exact Nat.mod_lt _ hb
theorem cuts_len(ps:List Nat):∀ xs:List Int,(cuts ps xs).length=ps.length:=by
 induction ps with
 | nil=>intro xs;rfl
 | cons p ps ih=>intro xs;simp [cuts,ih]
theorem cuts_get(ps:List Nat):∀ (xs:List Int) (i p:Nat),ps[i]?=some p→(cuts ps xs)[i]?=some ((xs.drop (ps.take i).sum).take p):=by
 induction ps with
 | nil=>intro xs i p h;simp at h
 | cons q ps ih =>
  intro xs i p h
  cases i with
  | zero=>simp at h;subst h;simp [cuts]
  | succ i =>
   have h':ps[i]?=some p:=by simpa using h
   have:=ih (xs.drop q) i p h'
   simp only [cuts,List.getElem?_cons_succ,this,List.take_succ_cons,List.sum_cons,List.drop_drop]
theorem cuts_mem{ps:List Nat}:∀ {xs row:List Int},row∈cuts ps xs→∀ x∈row,x∈xs:=by
 induction ps with
 | nil=>intro xs row h;simp [cuts] at h
 | cons p ps ih =>
  intro xs row h x hx
  rcases List.mem_cons.mp h with rfl | h
  ·exact List.mem_of_mem_take hx
  ·exact List.mem_of_mem_drop (ih h x hx)
theorem cuts_short{ps:List Nat}(hp:∀ p∈ps,p≤6):∀ {xs row:List Int},row∈cuts ps xs→row.length≤6:=by
 induction ps with
 | nil=>intro xs row h;simp [cuts] at h
 | cons p ps ih =>
  intro xs row h
  rcases List.mem_cons.mp h with rfl | h
  ·have:=hp p (by simp);rw [List.length_take];omega
  ·exact ih (fun q hq=>hp q (List.mem_cons_of_mem _ hq)) h
end Ma
namespace Ma
noncomputable def maxL:List Int→Int
 | []=>0
 | [x]=>x
 | x::r=>max x (maxL r)
noncomputable def minL:List Int→Int
 | []=>0
 | [x]=>x
 | x::r=>min x (minL r)
theorem maxL_spec:∀ ns:List Int,0<ns.length→maxL ns∈ns∧∀ n∈ns,n≤maxL ns
 | [],h=>by simp at h
 | [x],_=>by simp [maxL]
 | x::y::r,_=>by
  have ih:=maxL_spec (y::r) (by simp)
  have e:maxL (x::y::r)=max x (maxL (y::r)):=rfl
  rw [e]
  refine ⟨?_,fun n hn=>?_⟩
  ·rcases Int.le_total x (maxL (y::r)) with h | h
   ·rw [Int.max_eq_right h];exact List.mem_cons_of_mem _ ih.1
   ·rw [Int.max_eq_left h];simp
  ·rcases List.mem_cons.mp hn with rfl | hn
   ·exact Int.le_max_left _ _
   ·exact Int.le_trans (ih.2 n hn) (Int.le_max_right _ _)
theorem minL_spec:∀ ns:List Int,0<ns.length→minL ns∈ns∧∀ n∈ns,minL ns≤n
 | [],h=>by simp at h
 | [x],_=>by simp [minL]
 | x::y::r,_=>by
  have ih:=minL_spec (y::r) (by simp)
  have e:minL (x::y::r)=min x (minL (y::r)):=rfl
  rw [e]
  refine ⟨?_,fun n hn=>?_⟩
  ·rcases Int.le_total x (minL (y::r)) with h | h
   ·rw [Int.min_eq_left h];simp
   ·rw [Int.min_eq_right h];exact List.mem_cons_of_mem _ ih.1
  ·rcases List.mem_cons.mp hn with rfl | hn
   ·exact Int.min_le_left _ _
   ·exact Int.le_trans (Int.min_le_right _ _) (ih.2 n hn)
end Ma
namespace L2
open PySem PySem.Spec PyProof.Rows
structure Def(P:Program)(w:World)(K:PySem.W.Frag)(mg:Str→Option Value)(base:Heap)(k:Nat)(x:Str)(ps:List Str)(sp:Sp):Prop where
 ex:∃ f fd,FnOk P w K mg base CX0 k f fd ps sp∧mg x=some (.ref f)∧PySem.W.keepIn K (.ref f)=true∧Binds K fd ps []
section
variable{X:Cx}{k:Nat}{x:Str}{ps:List Str}{sp:Sp}{e a b c:Expr}{es:List Expr}{t:TA}{ta tb tc te:TE}{p pos:Pos}
theorem pe_fn(D:Def X.prog X.w X.K X.mg X.base k x ps sp)(hr:Room k X.A)(hg:Gl X x)(ha:PA X (e::es) t)(hdb:(x==("__debug__":Str))=false:=by decide)
  (he:starEach (e::es) X.env=(false,eval e X.env)::starEach es X.env:=by rfl) (hpl:(backTo pos (starEach es X.env)).any (·.1)=false:=by rfl):PE X (.Call (.Name x p) (e::es) [] pos) (tCall sp [] E0 t):=by
 obtain ⟨f,fd,G,h1,h2,h3⟩:=D.ex
 exact pe_call G hr hg h1 h2 h3 .nil pass0 ha hdb he hpl
theorem ixl(ha:PE X a ta)(hb:PE X b tb)(hs:PlainIx b:=by intro _ _;rfl):PE X (.Subscript a b pos) (tOp (rIxL X.K) ta tb):=pe_ix ix_list ha hb hs
theorem ixt(ha:PE X a ta)(hb:PE X b tb)(hs:PlainIx b:=by intro _ _;rfl):PE X (.Subscript a b pos) (tOp (rIxT X.K) ta tb):=pe_ix ix_tup ha hb hs
theorem lenS(hm:X.mg "len"=none)(hg:Gl X "len")(ha:PE X a ta)(hs:starEach [a] X.env=[(false,eval a X.env)]:=by rfl) :
  PE X (.Call (.Name "len" p) [a] [] pos) (tCB (fun xs H Q=>∃ p ys,xs=[.ref p]∧(SqL X.K H p ys∨SqT X.K H p ys)∧Q (.int ys.length) H) (tCons ta tNil)):=pe_callB call_len_seq hg hm PySem.boot_len (pa_cons ha pa_nil hs) (he:=hs)
theorem ixlK(K:PySem.W.Frag)(hK:X.K=K)(ha:PE X a ta)(hb:PE X b tb)(hs:PlainIx b:=by intro _ _;rfl):PE X (.Subscript a b pos) (tOp (rIxL K) ta tb):=by
 subst hK
 exact ixl ha hb hs
theorem ixtK(K:PySem.W.Frag)(hK:X.K=K)(ha:PE X a ta)(hb:PE X b tb)(hs:PlainIx b:=by intro _ _;rfl):PE X (.Subscript a b pos) (tOp (rIxT K) ta tb):=by
 subst hK
 exact ixt ha hb hs
theorem sl_listK(K:PySem.W.Frag)(hK:X.K=K):SlR X (rSlL K):=by
 subst hK
 exact sl_list
theorem pg_tupK(K:PySem.W.Frag)(hK:X.K=K){k n:Nat}{u:TGs}(hc:X.calm=true)(h:PGs X es u)(hn:(assignEach es X.env).length=n:=by rfl)(hst:(assignEach es X.env).findIdx? (·.1)=none:=by rfl):PG X (.Tuple es k pos) (gTup K n u):=by
 subst hK
 exact pg_tup hc h hn hst
theorem op_neDP(P:Program)(w:World)(hP:X.prog=P)(hw:X.w=w)(hu:X.A.units+64<cLine):OpR X (compareOp .NotEq) (rEqD P w true):=by
 subst hP hw
 exact op_neD hu
theorem gk_two{K:PySem.W.Frag}:GKeeps 2 (gTup K 2 (gCons (gName 0) (gCons (gName 1) gNil))):=fun v σ H Q q=>by
 obtain ⟨a,xs,e,h1,h2,v0,r0,e0,v1,r1,e1,e2,q⟩:=q
 exact ⟨a,xs,e,h1,h2,v0,r0,e0,v1,r1,e1,e2,⟨by simp,fun i hi=>by rw [List.getElem?_set_ne (by omega),List.getElem?_set_ne (by omega)]⟩,q⟩
theorem pe_ty{y:Str}{T:String}(hm:X.mg y=none)(hv:bootBuiltins y=some (.type T))(hg:Gl X y:=by rfl)(hn:y≠"__name__":=by decide)(hd:(y==("__debug__":Str))=false:=by decide):PE X (.Name y pos) (tC (.ty T)) :=
 pe_bltn (v:=.ty T) hg hm hv rfl hn hd
theorem r_ixl{K:PySem.W.Frag}{H:Hp}{q:Addr}{xs:List V}{i:Int}{v:V}{Q:VK}(h:H q=some (.lst xs))(e:atI xs i=some v)(k:Q v H):rIxL K (.ref q) (.int i) H Q:=⟨q,xs,i,v,rfl,rfl,SqL.of h,e,k⟩
theorem at_all{xs:List V}{i:Int}{Pr:V→Prop}(h0:0≤i)(h1:i<xs.length)(h:∀ x∈xs,Pr x):∃ v,atI xs i=some v∧Pr v:=by
 obtain ⟨j,rfl⟩:∃ j:Nat,i=j:=⟨i.toNat,by omega⟩
 have hj:j<xs.length:=by omega
 exact ⟨xs[j],atI_nat (by simp [hj]),h _ (List.getElem_mem hj)⟩
end
end L2
namespace Hv
open PySem L2
theorem sz{n:Nat}(h:n≤1000000):n≤sizeLine:=Nat.le_trans h (by decide)
theorem szl{n:Nat}(h:n≤1000000):n<sizeLine:=Nat.lt_of_le_of_lt h (by decide)
noncomputable def Kp(fp:List Addr)(H H':Hp):Prop:=∀ b o,H b=some o→b∉fp→H' b=some o
theorem Kp.refl{fp:List Addr}{H:Hp}:Kp fp H H:=fun _ _ h _=>h
theorem Kp.trans{fp:List Addr}{H H1 H2:Hp}(a:Kp fp H H1)(b:Kp fp H1 H2):Kp fp H H2:=fun c o h n=>b c o (a c o h n) n
theorem Kp.of{fp:List Addr}{H H':Hp}(a:Same H H'):Kp fp H H':=fun c o h _=>a c o h
theorem Kp.same{fp:List Addr}{H H1 H2:Hp}(a:Kp fp H H1)(b:Same H1 H2):Kp fp H H2:=fun c o h n=>b c o (a c o h n)
theorem same_upd{H:Hp}{a:Addr}{o:HO}(h:H a=none):Same H (upd H a o):=fun b u e=>by rw [upd_ne (ne_of_none e h)];exact e
theorem same_upd2{H H':Hp}{a:Addr}{o:HO}(s:Same H H')(h:H a=none):Same H (upd H' a o):=fun b u e=>by rw [upd_ne (ne_of_none e h)];exact s b u e
theorem kp_upd{fp:List Addr}{H H':Hp}{a:Addr}{o:HO}(s:Kp fp H H')(h:a∈fp∨H a=none):Kp fp H (upd H' a o):=fun b u e n=>by
 have:b≠a:=by
  rcases h with h | h
  ·exact fun z=>n (z▸h)
  ·exact ne_of_none e h
 rw [upd_ne this];exact s b u e n
structure FrOk(b:Nat)(ps:List Nat)(ws:List Int):Prop where
 b2:2≤b
 b16:b≤16
 l2:2≤ps.length
 l4:ps.length≤4
 pr:∀ p∈ps,1≤p∧p≤6
 wl:ws.length=ps.sum
 wr:∀ x∈ws,-9≤x∧x≤9
noncomputable abbrev natV(ps:List Nat):List V:=ps.map fun (p:Nat)=>V.int (p:Int)
theorem natV_eq(ps:List Nat):natV ps=(ps.map fun (p:Nat)=>(p:Int)).map V.int:=by simp [natV]
structure FrAt(H:Hp)(f a c:Addr)(b:Nat)(ps:List Nat)(ws:List Int):Prop where
 tp:H f=some (.tup [.int b,.ref a,.ref c])
 hp:H a=some (.lst (natV ps))
 hw:H c=some (.lst (ws.map V.int))
 ok:FrOk b ps ws
theorem FrAt.keep{H H':Hp}{f a c:Addr}{b:Nat}{ps:List Nat}{ws:List Int}(F:FrAt H f a c b ps ws)(s:Same H H'):FrAt H' f a c b ps ws:=⟨s _ _ F.tp,s _ _ F.hp,s _ _ F.hw,F.ok⟩
theorem FrOk.sum{b:Nat}{ps:List Nat}{ws:List Int}(F:FrOk b ps ws):2≤ps.sum∧ps.sum≤24:=by
 have h:=Ma.sum_le6 ps F.pr
 have h1:=F.l2
 have h2:=F.l4
 omega
theorem Kp.free{fp:List Addr}{H H':Hp}(s:Kp fp H H'){l:Addr}(h:H' l=none)(n:l∉fp):H l=none:=by
 cases q:H l with
 | none=>rfl
 | some o =>
  rw [s l o q n] at h
  cases h
end Hv
namespace Hv
open PySem L2
theorem boot_isinstance:bootBuiltins "isinstance"=some (.builtin "isinstance"):=PyProof.Rows.boot_isinstance
theorem boot_int:bootBuiltins "int"=some (.type "int"):=PyProof.Rows.boot_int
theorem boot_bool:bootBuiltins "bool"=some (.type "bool"):=PyProof.Rows.boot_bool
theorem boot_list:bootBuiltins "list"=some (.type "list"):=PyProof.Rows.boot_list
theorem boot_tuple:bootBuiltins "tuple"=some (.type "tuple"):=PyProof.Rows.boot_tuple
theorem boot_all:bootBuiltins "all"=some (.builtin "all"):=PyProof.Rows.boot_all
theorem boot_sum:bootBuiltins "sum"=some (.builtin "sum"):=PyProof.Rows.boot_sum
theorem boot_min:bootBuiltins "min"=some (.builtin "min"):=PyProof.Rows.boot_min
structure Txt(mg:Str→Option Value):Prop where
 isi:mg "isinstance"=none
 int:mg "int"=none
 bool:mg "bool"=none
 list:mg "list"=none
 tuple:mg "tuple"=none
 all:mg "all"=none
 len:mg "len"=none
 sum:mg "sum"=none
 range:mg "range"=none
 max:mg "max"=none
 min:mg "min"=none
 rev:mg "reversed"=none
 zip:mg "zip"=none
 enum:mg "enumerate"=none
section
variable{K:PySem.W.Frag}
theorem kit_ii:PySem.W.kitOne K (.type "int") (.type "int")=some true:=by kernel_rfl
theorem kit_ib:PySem.W.kitOne K (.type "int") (.type "bool")=some false:=by kernel_rfl
theorem kit_bi:PySem.W.kitOne K (.type "bool") (.type "int")=some true:=by kernel_rfl
theorem kit_bb:PySem.W.kitOne K (.type "bool") (.type "bool")=some true:=by kernel_rfl
theorem kit_ni:PySem.W.kitOne K (.type "NoneType") (.type "int")=some false:=by kernel_rfl
theorem kit_si:PySem.W.kitOne K (.type "str") (.type "int")=some false:=by kernel_rfl
theorem kit_li:PySem.W.kitOne K (.type "list") (.type "int")=some false:=by kernel_rfl
theorem kit_ti:PySem.W.kitOne K (.type "tuple") (.type "int")=some false:=by kernel_rfl
theorem kit_di:PySem.W.kitOne K (.type "dict") (.type "int")=some false:=by kernel_rfl
theorem kit_ll:PySem.W.kitOne K (.type "list") (.type "list")=some true:=by kernel_rfl
theorem kit_tt:PySem.W.kitOne K (.type "tuple") (.type "tuple")=some true:=by kernel_rfl
end
inductive Thing(H:Hp):V→Prop where
 | non:Thing H .non
 | bl (b:Bool):Thing H (.bl b)
 | int (i:Int):Thing H (.int i)
 | str (x:Str):Thing H (.str x)
 | lst {a:Addr} {xs:List V} (e:H a=some (.lst xs)):Thing H (.ref a)
 | tup {a:Addr} {xs:List V} (e:H a=some (.tup xs)):Thing H (.ref a)
 | dK {a:Addr} {kvs:List (Key×V)} (e:H a=some (.dK kvs)):Thing H (.ref a)
theorem Thing.keep{H H':Hp}{v:V}(t:Thing H v)(s:Same H H'):Thing H' v:=by
 cases t with
 | non=>exact .non
 | bl b=>exact .bl b
 | int i=>exact .int i
 | str x=>exact .str x
 | lst e=>exact .lst (s _ _ e)
 | tup e=>exact .tup (s _ _ e)
 | dK e=>exact .dK (s _ _ e)
noncomputable def isIntV:V→Bool
 | .int _=>true
 | _=>false
noncomputable def betw(v:V)(lo hi:Int):Bool:=match v with
 | .int i=>decide (lo≤i)&&decide (i≤hi)
 | _=>false
noncomputable def spWhole:Sp:=fun vs H Q _=>∃ v,vs=[v]∧Thing H v∧Q (.bl (isIntV v)) H
noncomputable def spBetw:Sp:=fun vs H Q _=>∃ v lo hi,vs=[v,.int lo,.int hi]∧Thing H v∧Q (.bl (betw v lo hi)) H
noncomputable def spLBetw:Sp:=fun vs H Q _=>∃ a xs lo hi,vs=[.ref a,.int lo,.int hi]∧H a=some (.lst xs)∧xs.length≤1000∧(∀ x∈xs,Thing H x)∧∀ H',Same H H'→Q (.bl (xs.all fun x=>betw x lo hi)) H'
noncomputable def spIsFrame:Sp:=fun vs H Q _=>∃ f a c b ps ws,vs=[.ref f]∧FrAt H f a c b ps ws∧∀ H',Same H H'→Q (.bl true) H'
noncomputable def spNeedFrame:Sp:=fun vs H Q _=>∃ f a c b ps ws,vs=[.ref f]∧FrAt H f a c b ps ws∧∀ H',Same H H'→Q .non H'
noncomputable def spHowMany:Sp:=fun vs H Q _=>∃ f a c b ps ws,vs=[.ref f]∧FrAt H f a c b ps ws∧∀ H',Same H H'→Q (.int ((b ^ ps.sum:Nat):Int)) H'
noncomputable def spNeedNumber:Sp:=fun vs H Q _=>∃ f a c b ps ws,∃ n:Nat,vs=[.ref f,.int n]∧FrAt H f a c b ps ws∧n<b ^ ps.sum∧∀ H',Same H H'→Q .non H'
noncomputable def spFigures:Sp:=fun vs H Q _=>∃ f a c b ps ws,∃ n:Nat,vs=[.ref f,.int n]∧FrAt H f a c b ps ws∧n<b ^ ps.sum∧
 ∀ r H',H r=none→Same H H'→H' r=some (.lst (natV (Ma.dws b n ps.sum ps.sum)))→Q (.ref r) H'
theorem betw_nats{ps:List Nat}{lo hi:Nat}(h:∀ p∈ps,lo≤p∧p≤hi):((natV ps).all fun x=>betw x lo hi)=true:=by
 rw [List.all_eq_true]
 intro x hx
 obtain ⟨p,hp,rfl⟩:=List.mem_map.mp hx
 have:=h p hp
 simp only [betw,Bool.and_eq_true,decide_eq_true_eq]
 omega
theorem betw_ints{ws:List Int}{lo hi:Int}(h:∀ p∈ws,lo≤p∧p≤hi):((ws.map V.int).all fun x=>betw x lo hi)=true:=by
 rw [List.all_eq_true]
 intro x hx
 obtain ⟨p,hp,rfl⟩:=List.mem_map.mp hx
 have:=h p hp
 simp only [betw,Bool.and_eq_true,decide_eq_true_eq]
 omega
theorem things_ints{H:Hp}(ws:List Int):∀ x∈ws.map V.int,Thing H x:=fun x hx=>by
 obtain ⟨p,_,rfl⟩:=List.mem_map.mp hx
 exact .int p
theorem things_nats{H:Hp}(ps:List Nat):∀ x∈natV ps,Thing H x:=fun x hx=>by
 obtain ⟨p,_,rfl⟩:=List.mem_map.mp hx
 exact .int p
end Hv
namespace Hv
open PySem L2
noncomputable def top (i : Nat) : Stmt := PySem.Challenge.pw_likehalves_k19_sums_of_even_ones.main.body.getD i (.Pass ⟨0, 0, 0, 0⟩)
noncomputable abbrev sWhole:Stmt:=top 5
noncomputable abbrev sBetw:Stmt:=top 6
noncomputable abbrev sLBetw:Stmt:=top 7
noncomputable abbrev sIsFrame:Stmt:=top 8
noncomputable abbrev sNeedFrame:Stmt:=top 9
noncomputable abbrev sHowMany:Stmt:=top 10
noncomputable abbrev sNeedNumber:Stmt:=top 11
noncomputable abbrev sCut:Stmt:=top 12
noncomputable abbrev sFiguresOf:Stmt:=top 13
noncomputable abbrev sNeedBound:Stmt:=top 15
noncomputable abbrev sStretches:Stmt:=top 16
noncomputable abbrev sPartBegin:Stmt:=top 17
noncomputable abbrev sWeighted:Stmt:=top 18
noncomputable abbrev sNumberOf:Stmt:=top 19
noncomputable abbrev sAddRows:Stmt:=top 21
noncomputable abbrev sAhead:Stmt:=top 22
noncomputable abbrev sStands:Stmt:=top 23
noncomputable abbrev sTails:Stmt:=top 24
noncomputable abbrev sWorthFrom:Stmt:=top 25
noncomputable abbrev sJoined:Stmt:=top 26
noncomputable abbrev sWorthBegun:Stmt:=top 27
noncomputable abbrev sSumEven:Stmt:=top 28
noncomputable abbrev sSumBelow:Stmt:=top 29
noncomputable abbrev sDraws:Stmt:=top 31
noncomputable abbrev sTake:Stmt:=top 32
noncomputable abbrev sFrame:Stmt:=top 33
noncomputable abbrev sCopy:Stmt:=top 34
noncomputable abbrev sLawTails:Stmt:=top 35
noncomputable abbrev sLawBehind:Stmt:=top 36
noncomputable abbrev sFigures:Stmt:=top 37
noncomputable abbrev sLawPower:Stmt:=top 38
noncomputable abbrev sLawSumBelow:Stmt:=top 39
noncomputable abbrev sLawWith:Stmt:=top 40
noncomputable abbrev sLawSumOfAll:Stmt:=top 41
noncomputable abbrev sSomeNumber:Stmt:=top 42
noncomputable abbrev sWholeL:Stmt:=top 43
noncomputable abbrev sLaw:Stmt:=top 44
end Hv
namespace L2
open PySem PySem.Spec PyProof.Rows
section
variable{κ:Type}[DecidableEq κ]
noncomputable def valV(kvs:List (κ×V))(k:κ):Option V:=(kvs.find? fun kv=>decide (kv.1=k)).map (·.2)
noncomputable def putK(kvs:List (κ×V))(k:κ)(v:V):List (κ×V) :=
 if (kvs.any fun kv=>decide (kv.1=k))=true then kvs.map (fun kv=>if kv.1=k then (kv.1,v) else kv) else kvs++[(k,v)]
theorem valV_pos{p:κ×V}{r:List (κ×V)}{k:κ}(e:p.1=k):valV (p::r) k=some p.2:=by simp [valV,List.find?_cons,e]
theorem valV_neg{p:κ×V}{r:List (κ×V)}{k:κ}(e:¬ p.1=k):valV (p::r) k=valV r k:=by simp [valV,List.find?_cons,e]
theorem valV_any(k:κ):∀ kvs:List (κ×V),(kvs.any fun kv=>decide (kv.1=k))=(valV kvs k).isSome
 | []=>rfl
 | p::r=>by
  rw [List.any_cons]
  by_cases e:p.1=k
  ·simp only [valV_pos e,decide_eq_true e,Bool.true_or,Option.isSome_some]
  ·rw [valV_neg e,decide_eq_false e,Bool.false_or];exact valV_any k r
theorem length_putK(kvs:List (κ×V))(k:κ)(v:V):(putK kvs k v).length≤kvs.length+1:=by
 unfold putK
 split
 ·rw [List.length_map];omega
 ·rw [List.length_append,List.length_cons,List.length_nil];omega
theorem RelO.isSome_eq{o:Option V}{u:Option Value}(r:RelO o u):o.isSome=u.isSome:=by
 cases o with
 | none=>cases u with
  | none=>rfl
  | some _=>exact (show False from r).elim
 | some _=>cases u with
  | none=>exact (show False from r).elim
  | some _=>rfl
theorem RelO.getD{o:Option V}{u:Option Value}{d:V}{d':Value}(r:RelO o u)(rd:RelV d d'):RelV (o.getD d) (u.getD d'):=by
 cases o with
 | none=>cases u with
  | none=>exact rd
  | some _=>exact (show False from r).elim
 | some _=>cases u with
  | none=>exact (show False from r).elim
  | some _=>exact r
theorem KV.val{kvs:List (κ×V)}{vs:List (κ×Value)}(r:KV kvs vs)(k:κ):RelO (valV kvs k) (valueAt vs k):=by
 unfold KV at r
 induction r with
 | nil=>exact True.intro
 | @cons p q ps qs h t ih =>
  obtain ⟨h1,h2⟩:=h
  by_cases e:p.1=k
  ·have e':q.1=k:=h1.symm.trans e
   have b:valueAt (q::qs) k=some q.2:=by simp [valueAt,List.find?_cons,e']
   rw [valV_pos e,b];exact h2
  ·have e':¬ q.1=k:=fun z=>e (h1.trans z)
   have b:valueAt (q::qs) k=valueAt qs k:=by simp [valueAt,List.find?_cons,e']
   rw [valV_neg e,b];exact ih
theorem KV.any{kvs:List (κ×V)}{vs:List (κ×Value)}(r:KV kvs vs)(k:κ):(kvs.any fun kv=>decide (kv.1=k))=vs.any fun kv=>decide (kv.1=k):=by
 unfold KV at r
 induction r with
 | nil=>rfl
 | cons h t ih=>rw [List.any_cons,List.any_cons,ih,h.1]
theorem KV.repl{kvs:List (κ×V)}{vs:List (κ×Value)}(r:KV kvs vs)(k:κ){y:V}{u:Value}(ry:RelV y u) :
  KV (kvs.map fun kv=>if kv.1=k then (kv.1,y) else kv) (vs.map fun kv=>if kv.1=k then (kv.1,u) else kv):=by
 unfold KV at r⊢
 induction r with
 | nil=>exact .nil
 | @cons p q ps qs h t ih =>
  rw [List.map_cons,List.map_cons]
  refine .cons ?_ ih
  obtain ⟨h1,h2⟩:=h
  by_cases e:p.1=k
  ·rw [if_pos e,if_pos (h1.symm.trans e)];exact ⟨h1,ry⟩
  ·rw [if_neg e,if_neg (fun z=>e (h1.trans z))];exact ⟨h1,h2⟩
theorem KV.put{kvs:List (κ×V)}{vs:List (κ×Value)}(r:KV kvs vs)(k:κ){y:V}{u:Value}(ry:RelV y u):KV (putK kvs k y) (stored vs k u):=by
 unfold putK stored
 rw [r.any k]
 by_cases e:(vs.any fun kv=>decide (kv.1=k))=true
 ·rw [if_pos e,if_pos e];exact r.repl k ry
 ·rw [if_neg e,if_neg e];exact Paired.snoc r ⟨rfl,ry⟩
theorem KV.length{kvs:List (κ×V)}{vs:List (κ×Value)}(r:KV kvs vs):kvs.length=vs.length:=Paired.length r
end
theorem kV_is{P:Program}{w:World}{k:Key}{u:Value}(r:RelV (kV k) u):(mixKind P w).is k u=true:=by
 cases k with
 | inl i=>obtain ⟨t,e⟩:=(show ∃ t,u=Value.int i t from r);subst e;exact mixKind_int P w i t
 | inr x=>obtain ⟨t,e⟩:=(show ∃ t,u=Value.str x t from r);subst e;exact mixKind_str P w x t
theorem items_are{P:Program}{w:World}:∀ {ks:List Key} {us:List Value},Vals (ks.map kV) us→ItemsAre (mixKind P w) ks us
 | [],_,r=>by rw [List.map_nil] at r;cases r;exact .nil
 | k::ks,_,r=>by
  rw [List.map_cons] at r
  cases r with
  | cons h t=>exact .cons (kV_is h) (items_are t)
noncomputable abbrev KT(H:Hp):List (List Key×V)→List (List Key×Addr×Value)→Prop:=Paired fun p q=>p.1=q.1∧H q.2.1=some (.tup (p.1.map kV))∧RelV p.2 q.2.2
theorem KT.val{H:Hp}{kvs:List (List Key×V)}{xs:List (List Key×Addr×Value)}(r:KT H kvs xs)(k:List Key):RelO (valV kvs k) ((atKey xs k).map (·.2)):=by
 induction r with
 | nil=>exact True.intro
 | @cons p q ps qs h t ih =>
  obtain ⟨h1,_,h2⟩:=h
  by_cases e:p.1=k
  ·have e':q.1=k:=h1.symm.trans e
   have b:atKey (q::qs) k=some q.2:=by simp [atKey,List.find?_cons,e']
   rw [valV_pos e,b];exact h2
  ·have e':¬ q.1=k:=fun z=>e (h1.trans z)
   have b:atKey (q::qs) k=atKey qs k:=by simp [atKey,List.find?_cons,e']
   rw [valV_neg e,b];exact ih
theorem KT.repl{H:Hp}{kvs:List (List Key×V)}{xs:List (List Key×Addr×Value)}(r:KT H kvs xs)(k:List Key){y:V}{u:Value}(ry:RelV y u) :
  KT H (kvs.map fun kv=>if kv.1=k then (kv.1,y) else kv) (xs.map (putAt k u)):=by
 induction r with
 | nil=>exact .nil
 | @cons p q ps qs h t ih =>
  rw [List.map_cons,List.map_cons]
  refine .cons ?_ ih
  obtain ⟨h1,h2,h3⟩:=h
  unfold putAt
  by_cases e:p.1=k
  ·rw [if_pos e,if_pos (h1.symm.trans e)];exact ⟨h1,h2,ry⟩
  ·rw [if_neg e,if_neg (fun z=>e (h1.trans z))];exact ⟨h1,h2,h3⟩
theorem KT.put{H:Hp}{kvs:List (List Key×V)}{xs:List (List Key×Addr×Value)}(r:KT H kvs xs)(k:List Key){b:Addr}{y:V}{u:Value}(hb:H b=some (.tup (k.map kV)))(ry:RelV y u) :
  KT H (putK kvs k y) (storedH xs k b u):=by
 have e:(kvs.any fun kv=>decide (kv.1=k))=(atKey xs k).isSome:=by
  rw [valV_any,(r.val k).isSome_eq,Option.isSome_map]
 unfold putK storedH
 rw [e]
 by_cases q:(atKey xs k).isSome=true
 ·rw [if_pos q,if_pos q];exact r.repl k ry
 ·rw [if_neg q,if_neg q];exact Paired.snoc r ⟨rfl,hb,ry⟩
theorem KT.keeps{H H':Hp}{kvs:List (List Key×V)}{xs:List (List Key×Addr×Value)}(r:KT H kvs xs)(ht:∀ b ys,H b=some (.tup ys)→H' b=some (.tup ys)):KT H' kvs xs :=
 Paired.mapP r fun _ _ z=>⟨z.1,ht _ _ z.2.1,z.2.2⟩
section
variable{P:Program}{w:World}{H:Hp}{h:Heap}{a:Addr}
theorem rd_of{u:HO}(ok:HOk P w H h)(e:Rd H a u):ObjOk P w H h a u:=e.ok ok
theorem dk_rd{kvs:List (Key×V)}(ok:HOk P w H h)(e:Rd H a (.dK kvs)):kvs.length≤sizeLine∧(a==sysModules)=false∧∃ vs,KV kvs vs∧h.DictOf (mixKind P w) a vs :=
 show ObjOk P w H h a (.dK kvs) from rd_of ok e
theorem dk_of{kvs:List (Key×V)}(ok:HOk P w H h)(e:H a=some (.dK kvs)):kvs.length≤sizeLine∧(a==sysModules)=false∧∃ vs,KV kvs vs∧h.DictOf (mixKind P w) a vs:=dk_rd ok (.inl e)
theorem key_of{ks:List Key}(ok:HOk P w H h)(e:H a=some (.tup (ks.map kV))):(tupleKind (mixKind P w)).is h ks a:=by
 obtain ⟨_,its,r,o,h1,h2,n,h3⟩:=(show ObjOk P w H h a (.tup (ks.map kV)) from ok a _ e)
 exact ⟨o,its.toArray,n,h1,h2,h3,by simpa using items_are r⟩
theorem dt_rd{kvs:List (List Key×V)}(ok:HOk P w H h)(e:Rd H a (.dT kvs)):kvs.length≤sizeLine∧(a==sysModules)=false∧
  ∃ xs,KT H kvs xs∧h.DictOfH (tupleKind (mixKind P w)) a xs:=by
 obtain ⟨z,y,xs,r,o,es,ep,h1,h2,h3,h4,h5⟩:=(show ObjOk P w H h a (.dT kvs) from rd_of ok e)
 refine ⟨z,y,xs,r,o,es,ep,h1,h2,h3,h4,fun x hx=>?_,h5⟩
 have all:∀ {l:List (List Key×V)} {m:List (List Key×Addr×Value)},KT H l m→∀ x∈m,(tupleKind (mixKind P w)).is h x.1 x.2.1:=by
  intro l m q
  induction q with
  | nil=>intro x hx;exact nomatch hx
  | @cons p q ps qs hq t ih =>
   intro x hx
   rcases List.mem_cons.mp hx with e | hx
   ·subst e
    exact key_of ok (by rw [← hq.1];exact hq.2.1)
   ·exact ih x hx
 exact all r x hx
theorem dt_of{kvs:List (List Key×V)}(ok:HOk P w H h)(e:H a=some (.dT kvs)):kvs.length≤sizeLine∧(a==sysModules)=false∧
  ∃ xs,KT H kvs xs∧h.DictOfH (tupleKind (mixKind P w)) a xs:=dt_rd ok (.inl e)
end
noncomputable def DGet(H:Hp)(a:Addr)(y:V)(r:Option V):Prop :=
 (∃ kvs k,Rd H a (.dK kvs)∧y=kV k∧r=valV kvs k)∨∃ kvs k b,Rd H a (.dT kvs)∧y=.ref b∧H b=some (.tup (k.map kV))∧r=valV kvs k
noncomputable def DPut(H:Hp)(a:Addr)(y v:V)(H':Hp):Prop :=
 (∃ kvs k,H a=some (.dK kvs)∧y=kV k∧kvs.length<sizeLine∧H'=upd H a (.dK (putK kvs k v)))∨
 ∃ kvs k b,H a=some (.dT kvs)∧y=.ref b∧H b=some (.tup (k.map kV))∧kvs.length<sizeLine∧H'=upd H a (.dT (putK kvs k v))
theorem DPut.k{H:Hp}{a:Addr}{kvs:List (Key×V)}{k:Key}{v:V}(e:H a=some (.dK kvs))(hl:kvs.length<sizeLine):DPut H a (kV k) v (upd H a (.dK (putK kvs k v))):=.inl ⟨kvs,k,e,rfl,hl,rfl⟩
section
variable{X:Cx}{pins:List (Addr×Obj)}{σ:St}{H:Hp}{s:Shared}{a:Addr}{y v:V}{u r:Value}{o:Option V}{A:Around}{E:Value→Shared→Prop}
theorem Inv.big(I:Inv X pins σ H s):sysModules<s.heap.objs.size:=by
 have h:mainGlobals<s.heap.objs.size:=(I.mod.glob.keeps I.bk).lt
 exact Nat.lt_trans (by decide) h
theorem d_getItem{Q:Value→Shared→Prop}(hu:A.units+1<cLine)(I:Inv X pins σ H s)(g:DGet H a y (some v))(ry:RelV y u)(h:∀ w' s',Inv X pins σ H s'→RelV v w'→Q w' s') :
  wpAny (model X.prog X.w) A (getItem (.ref a) u) Q E s:=by
 rcases g with ⟨kvs,k,e,ey,l⟩ | ⟨kvs,k,b,e,ey,eb,l⟩
 ·subst ey
  obtain ⟨z,hd,vs,rel,dd⟩:=dk_rd I.hok e
  obtain ⟨w',hw,rw'⟩:=RelO.some_of (v:=v) (o:=valueAt vs k) (by rw [l];exact rel.val k)
  exact wpAny_getItem_of (kV_is ry) dd.mapOf hw (h w' _ (I.tok _) rw')
 ·subst ey
  cases (show u=Value.ref b from ry)
  obtain ⟨z,hd,xs,rel,dd⟩:=dt_rd I.hok e
  obtain ⟨w',hw,rw'⟩:=RelO.some_of (v:=v) (o:=(atKey xs k).map (·.2)) (by rw [l];exact rel.val k)
  obtain ⟨p,hp,hp2⟩:=Option.map_eq_some_iff.mp hw
  refine wpAny_getItem_heap (tupleKind_room_in1 hu) (key_of I.hok eb) dd hp ?_
  rw [hp2]
  exact h w' _ (I.tok _) rw'
theorem d_in{Q:Value→Shared→Prop}(hu:A.units+1<cLine)(I:Inv X pins σ H s)(g:DGet H a y o)(ry:RelV y u)(h:∀ s',Inv X pins σ H s'→Q (.bool o.isSome) s') :
  wpAny (model X.prog X.w) A (compareOp .In u (.ref a)) Q E s:=by
 rcases g with ⟨kvs,k,e,ey,l⟩ | ⟨kvs,k,b,e,ey,eb,l⟩
 ·subst ey
  obtain ⟨z,hd,vs,rel,dd⟩:=dk_rd I.hok e
  refine wpAny_in_of (kV_is ry) hd dd.mapOf ?_
  rw [← (rel.val k).isSome_eq,← l]
  exact h _ (I.tok _)
 ·subst ey
  cases (show u=Value.ref b from ry)
  obtain ⟨z,hd,xs,rel,dd⟩:=dt_rd I.hok e
  refine wpAny_in_heap (tupleKind_room_in1 hu) (key_of I.hok eb) hd dd ?_
  have q:=(rel.val k).isSome_eq
  rw [Option.isSome_map] at q
  rw [← q,← l]
  exact h _ (I.tok _)
theorem d_write{h':Heap}{t':Nat}{ob:HO}(I:Inv X pins σ H s)(mu:Mut (H a))(hs:Heap.SameBut a s.heap h')(he:∃ q,h'.get? a=some q)(new:ObjOk X.prog X.w (upd H a ob) h' a ob) :
  Inv X pins σ (upd H a ob) {s with heap:=h',toks:=t'} :=
 I.write (x:=a) (e:=a) mu (.inl rfl) (fun b q hb z=>(hs.2 b hb).trans z) he new
theorem dk_new{P:Program}{w:World}{H':Hp}{h':Heap}{kvs:List (Key×V)}{vs:List (Key×Value)}(z:kvs.length≤sizeLine)(hd:(a==sysModules)=false)(rel:KV kvs vs)(dd:h'.DictOf (mixKind P w) a vs) :
  ObjOk P w H' h' a (.dK kvs):=⟨z,hd,vs,rel,dd⟩
theorem d_setItem{H':Hp}{Q:Unit→Shared→Prop}(hu:A.units+1<cLine)(I:Inv X pins σ H s)(g:DPut H a y v H')(ry:RelV y u)(rv:RelV v r)(h:∀ s',Inv X pins σ H' s'→Q () s') :
  wpAny (model X.prog X.w) A (setItem (.ref a) u r) Q E s:=by
 rcases g with ⟨kvs,k,e,ey,l,eH⟩ | ⟨kvs,k,b,e,ey,eb,l,eH⟩
 ·subst ey eH
  obtain ⟨z,hd,vs,rel,dd⟩:=dk_of I.hok e
  have hz:vs.length≤sizeLine:=by rw [← rel.length];exact z
  have hl:(putK kvs k v).length≤sizeLine:=by have:=length_putK kvs k v;omega
  refine wpAny_setItem_pairs (hsz:=hz) (kV_is ry) dd fun h' dd' hs=>h _ ?_
  have he:∃ q,h'.get? a=some q:=let ⟨q,_,_,hq,_⟩:=dd';⟨q,hq⟩
  exact d_write I (by rw [e];exact True.intro) hs he (dk_new hl hd (rel.put k rv) dd')
 ·subst ey eH
  cases (show u=Value.ref b from ry)
  obtain ⟨z,hd,xs,rel,dd⟩:=dt_of I.hok e
  have hz:xs.length≤sizeLine:=by rw [← Paired.length rel];exact z
  have hl:(putK kvs k v).length≤sizeLine:=by have:=length_putK kvs k v;omega
  refine wpAny_setItem_heap (hsz:=hz) (tupleKind_room_in1 hu) (key_of I.hok eb) dd fun h' dd' hs=>h _ ?_
  obtain ⟨q,es,ep,hq,h2,h3,h4,_,h5⟩:=dd'
  refine d_write I (by rw [e];exact True.intro) hs ⟨q,hq⟩ ⟨hl,hd,_,(rel.put k eb rv).keeps fun c ys ec=>?_,q,es,ep,hq,h2,h3,h4,h5⟩
  rw [upd_ne (ne_of ec e (fun z=>nomatch z))]
  exact ec
end
section
variable{X:Cx}{pins:List (Addr×Obj)}{σ:St}{H:Hp}{s:Shared}{a:Addr}{kvs:List (Key×V)}{k:Key}{u:Value}{A:Around}{E:Value→Shared→Prop}
end
noncomputable def NoSl(i:Expr):Prop:=∀ ov iv,subscripted i false ov iv=operate [ov,iv] (getItem ov iv)
theorem subD_of{prog:Program}{w:World}{A:Around}{E:Value→Shared→Prop}{s:Shared}{env:Env}{value slice:Expr}{pos:Pos}{T id:String}{Q:Value→Shared→Prop}
  (hl:typeLookup (.type T) "__getitem__"=pure (some (.builtin id))) (hs:NoSl slice)
  (h:wpAny (model prog w) A (eval value env) (fun o s₁=>wpAny (model prog w) A (eval slice env) (fun i s₂=>s₂.TypeIs o T∧wpAny (model prog w) A (getItem o i) Q E s₂) E s₁) E s) :
  wpAny (model prog w) A (eval (.Subscript value slice pos) env) Q E s:=by
 refine Subscript_ (wpAny_mono h (fun o s₁ h₁=>wpAny_mono h₁ (fun i s₂ h₂=>?_) fun _ _ x=>x) fun _ _ x=>x)
 obtain ⟨hT,h₂⟩:=h₂
 unfold subscriptTail
 refine wpAny_bind ?_
 rw [getitemInPython_of_ne hT.not_modules]
 refine wpAny_bind (wpAny_specialOf hT hl ?_)
 have fin:wpAny (model prog w) A (subscripted slice false o i) (fun r s₃=>wpAny (model prog w) A (letTemporaryGo value o r>>=fun _=>pure r) Q E s₃) E s₂:=by
  rw [hs o i]
  exact wpAny_operating (wpAny_mono h₂ (fun r s₃ h₃=>wpAny_bind (wpAny_letTemporaryGo (wpAny_pure h₃))) fun _ _ x=>x)
 first
  | exact wpAny_pure (wpAny_bind fin)
  | exact wpAny_bind (wpAny_pure (wpAny_bind fin))
  | exact wpAny_bind fin
theorem dict_typeIs{X:Cx}{pins:List (Addr×Obj)}{σ:St}{H:Hp}{s:Shared}{a:Addr}{y:V}{o:Option V}(I:Inv X pins σ H s)(g:DGet H a y o):s.TypeIs (.ref a) "dict":=by
 rcases g with ⟨kvs,k,e,_,_⟩ | ⟨kvs,k,b,e,_,_,_⟩
 ·obtain ⟨_,_,vs,_,dd⟩:=dk_rd I.hok e
  exact dd.typeIs
 ·obtain ⟨_,_,xs,_,dd⟩:=dt_rd I.hok e
  exact dd.typeIs
noncomputable def tDGet(td ty:TE):TE:=fun σ H Q=>td σ H fun x H1=>ty σ H1 fun y H2=>∃ a v,x=.ref a∧DGet H2 a y (some v)∧Q v H2
noncomputable def tDIn(ty td:TE):TE:=fun σ H Q=>ty σ H fun y H1=>td σ H1 fun x H2=>∃ a o,x=.ref a∧DGet H2 a y o∧Q (.bl o.isSome) H2
noncomputable def sDPut(td ty tv:TE):TS:=fun D σ H=>tv σ H fun v H1=>td σ H1 fun x H2=>ty σ H2 fun y H3=>∃ a H4,x=.ref a∧DPut H3 a y v H4∧D.nx σ H4
section
variable{X:Cx}{o i e value:Expr}{pos pos' tpos:Pos}{td ty tv:TE}
theorem pe_dget(hu:X.A.units+1<cLine)(ho:PE X o td)(hi:PE X i ty)(hs:NoSl i):PE X (.Subscript o i pos) (tDGet td ty):=by
 intro pins s σ H Q I h
 refine subD_of PySem.F.slot_dict_getitem.lookup hs (thn (ho pins s σ H _ I h) fun u s1 ⟨x,H1,I1,rx,q1⟩=>thn (hi pins s1 σ H1 _ I1 q1) fun iv s2 ⟨y,H2,I2,ry,a,v,ex,g,q2⟩=>?_)
 subst ex
 obtain rfl:u=Value.ref a:=rx
 exact ⟨dict_typeIs I2 g,d_getItem hu I2 g ry fun w' s3 I3 rw'=>⟨v,H2,I3,rw',q2⟩⟩
theorem pc_din(hu:X.A.units+1<cLine)(hi:PE X i ty)(ho:PE X o td):PC X .In i o (tDIn ty td):=by
 intro pins s σ H Q I h
 refine thn (hi pins s σ H _ I h) fun iv s1 ⟨y,H1,I1,ry,q1⟩=>thn (ho pins s1 σ H1 _ I1 q1) fun u s2 ⟨x,H2,I2,rx,a,ov,ex,g,q2⟩=>?_
 subst ex
 obtain rfl:u=Value.ref a:=rx
 exact d_in hu I2 g ry fun s3 I3=>⟨.bl ov.isSome,H2,I3,rfl,q2⟩
theorem ps_dput(hu:X.A.units+1<cLine)(ho:PE X o td)(hi:PE X i ty)(hv:PE X value tv)(hs:swapsWith value (some (.Subscript o i pos')) pos.line X.env=pure false) :
  PS X (.Assign [.Subscript o i pos'] value pos) (sDPut td ty tv):=by
 intro pins s σ H D I h
 refine wpAny_Assign_Subscript (thn (hv pins s σ H _ I h) fun r s1 ⟨v,H1,I1,rv,q1⟩=>thn (ho pins s1 σ H1 _ I1 q1) fun u s2 ⟨x,H2,I2,rx,q2⟩=>thn (hi pins s2 σ H2 _ I2 q2) fun iv s3 ⟨y,H3,I3,ry,a,H4,ex,g,q3⟩=>?_) hs
 subst ex
 obtain rfl:u=Value.ref a:=rx
 exact d_setItem hu I3 g ry rv fun s4 I4=>⟨σ,H4,I4,q3⟩
end
theorem dk_empty{P:Program}{w:World}{H:Hp}(h:Heap)(hb:sysModules<h.objs.size):ObjOk P w H (h.push {cls:=.type "dict",data:=.dict #[]}) h.objs.size (.dK []) :=
 ⟨Nat.zero_le _,beq_eq_false_iff_ne.mpr (Ne.symm (Nat.ne_of_lt hb)),[],.nil,Heap.DictOf.new h⟩
noncomputable def tDNewK:TE:=fun _ H Q=>∀ p,H p=none→Q (.ref p) (upd H p (.dK []))
section
variable{X:Cx}{pos:Pos}
theorem pe_dnewK:PE X (.Dict [] [] pos) tDNewK:=fun pins s σ H Q I h =>
 wpAny_Dict_empty ⟨.ref s.heap.objs.size,_,I.laid (a:=s.heap.objs.size) (o:=.dK []) (t':=s.toks) (fun _ _ q=>Heap.get?_push_of_some _ q) (Nat.le_refl _) (dk_empty s.heap I.big),rfl,h _ (I.hok.fresh (Nat.le_refl _))⟩
end
noncomputable def tPairs:List (TE×TE)→St→Hp→(List (V×V)→Hp→Prop)→Prop
 | [],_,H,Q=>Q [] H
 | (tk,tv)::r,σ,H,Q=>tk σ H fun x H1=>tv σ H1 fun y H2=>tPairs r σ H2 fun ps H3=>Q ((x,y)::ps) H3
noncomputable abbrev VV:List (V×V)→List (Value×Value)→Prop:=Paired fun p q=>RelV p.1 q.1∧RelV p.2 q.2
noncomputable def PPs(X:Cx)(pos:Pos)(keys:List (Option Expr))(values:List Expr)(trs:List (TE×TE)):Prop :=
 ∀ (pins:List (Addr×Obj)) (s:Shared) (σ:St) (H:Hp) (Q:List (V×V)→Hp→Prop),Inv X pins σ H s→tPairs trs σ H Q→
  wpAny (model X.prog X.w) X.A (evalPairs (pairTrees keys values X.env pos)) (fun vs s'=>∃ ps H',Inv X pins σ H' s'∧VV ps vs∧Q ps H') X.xe s
theorem pps_nil{X:Cx}{pos:Pos}:PPs X pos [] [] []:=fun pins s σ H Q I h=>pairTrees_nil_walk ⟨[],H,I,.nil,h⟩
theorem pps_cons{X:Cx}{pos:Pos}{k v:Expr}{ks:List (Option Expr)}{vs:List Expr}{tk tv:TE}{trs:List (TE×TE)}(hk:PE X k tk)(hv:PE X v tv)(hr:PPs X pos ks vs trs) :
  PPs X pos (some k::ks) (v::vs) ((tk,tv)::trs):=fun pins s σ H Q I h =>
 pairTrees_cons_walk (thn (hk pins s σ H _ I h) fun u s1 ⟨x,H1,I1,rx,q1⟩=>thn (hv pins s1 σ H1 _ I1 q1) fun w2 s2 ⟨y,H2,I2,ry,q2⟩ =>
  thn (hr pins s2 σ H2 _ I2 q2) fun ws s3 ⟨ps,H3,I3,rel,q3⟩=>⟨(x,y)::ps,H3,I3,.cons ⟨rx,ry⟩ rel,q3⟩)
noncomputable def mergeK(kvs more:List (Key×V)):List (Key×V):=more.foldl (fun acc kv=>putK acc kv.1 kv.2) kvs
theorem KV.merge:∀ {more:List (Key×V)} {rs:List (Key×Value)} {kvs:List (Key×V)} {vs:List (Key×Value)},KV more rs→KV kvs vs→KV (mergeK kvs more) (merged vs rs):=by
 intro more rs kvs vs r
 unfold KV at r
 induction r generalizing kvs vs with
 | nil=>intro q;exact q
 | @cons p q ps qs h t ih =>
  intro r0
  have e:KV (putK kvs p.1 p.2) (stored vs q.1 q.2):=by
   have:=r0.put p.1 h.2
   rw [← h.1];exact this
  exact ih e
theorem length_mergeK:∀ (more kvs:List (Key×V)),(mergeK kvs more).length≤kvs.length+more.length
 | [],kvs=>by show kvs.length≤kvs.length+0;omega
 | p::r,kvs=>by
  have h1:=length_mergeK r (putK kvs p.1 p.2)
  have h2:=length_putK kvs p.1 p.2
  show (mergeK (putK kvs p.1 p.2) r).length≤_
  rw [List.length_cons];omega
theorem carries_of{P:Program}{w:World}:∀ {kvs:List (Key×V)} {ws:List (Value×Value)},VV (kvs.map fun kv=>(kV kv.1,kv.2)) ws→∃ rs,Carries (mixKind P w) ws rs∧KV kvs rs
 | [],_,r=>by rw [List.map_nil] at r;cases r;exact ⟨[],True.intro,.nil⟩
 | p::kvs,_,r=>by
  rw [List.map_cons] at r
  cases r with
  | @cons a b as bs h t =>
   obtain ⟨rs,c,q⟩:=carries_of (P:=P) (w:=w) t
   obtain ⟨b1,b2⟩:=b
   exact ⟨(p.1,b2)::rs,⟨kV_is h.1,rfl,c⟩,.cons ⟨rfl,h.2⟩ q⟩
noncomputable def tDisp(trs:List (TE×TE)):TE:=fun σ H Q=>∀ p,H p=none→tPairs trs σ (upd H p (.dK [])) fun ps H2=>H2 p=some (.dK [])∧∃ kvs:List (Key×V),ps=kvs.map (fun kv=>(kV kv.1,kv.2))∧kvs.length≤15∧Q (.ref p) (upd H2 p (.dK (mergeK [] kvs)))
theorem pe_disp{X:Cx}{pos:Pos}{keys:List (Option Expr)}{values:List Expr}{trs:List (TE×TE)}(h:PPs X pos keys values trs)(hall:keys.all (·.isSome)=true)(hl:keys.length=values.length)(h0:keys≠[])
  (h15:keys.length≤15):PE X (.Dict keys values pos) (tDisp trs):=by
 intro pins s σ H Q I q
 have hn:=I.hok.fresh (Nat.le_refl s.heap.objs.size)
 have I1:=I.laid (a:=s.heap.objs.size) (o:=.dK []) (h':=s.heap.push {cls:=.type "dict",data:=.dict #[]}) (t':=s.toks) (fun _ _ q=>Heap.get?_push_of_some _ q) (Nat.le_refl _) (dk_empty s.heap I.big)
 refine wpAny_Dict_walk (knd:=mixKind X.prog X.w) hall hl h0 h15 (thn (h pins _ σ _ _ I1 (q _ hn)) fun ws s2 ⟨ps,H2,I2,rel,e,kvs,ep,lk,q2⟩=>?_)
 subst ep
 obtain ⟨rs,c,rk⟩:=carries_of (P:=X.prog) (w:=X.w) rel
 obtain ⟨z,hd,vs0,r0,dd⟩:=dk_of I2.hok e
 cases r0
 refine ⟨rs,c,dd,fun h' dd' hs=>⟨.ref s.heap.objs.size,_,?_,rfl,q2⟩⟩
 have hz:(mergeK [] kvs).length≤sizeLine:=by
  have h1:=length_mergeK kvs []
  rw [List.length_nil] at h1
  rw [sizeLine_eq];omega
 have he:∃ q,h'.get? s.heap.objs.size=some q:=let ⟨q,_,_,hq,_⟩:=dd';⟨q,hq⟩
 exact d_write I2 (by rw [e];exact True.intro) hs he (dk_new hz hd (rk.merge .nil) dd')
structure M2(X:Cx)(o:Expr)(m:Str)(apos:Pos)(e f:Expr)(cpos:Pos):Prop where
 base:attributeBase o m X.env (eval o X.env)=eval o X.env
 few:((backTo cpos (starEach [e,f] X.env)).all (fun x=>!x.1)&&(backToKw cpos (keywordEach [] X.env)).all (fun x=>x.1.isSome)
  && decide (([e,f]:List Expr).length+([]:List Keyword).length+(if ([]:List Keyword).isEmpty then 0 else 1)<30))=true
 line:(apos.endLine==cpos.line)=true
 trees:backTo cpos (starEach [e,f] X.env)=[(false,eval e X.env),(false,eval f X.env)]
noncomputable def IsD(H:Hp)(a:Addr):Prop:=(∃ kvs,Rd H a (.dK kvs))∨∃ kvs,Rd H a (.dT kvs)
theorem isD_at{X:Cx}{pins:List (Addr×Obj)}{σ:St}{H:Hp}{s:Shared}{a:Addr}(I:Inv X pins σ H s)(d:IsD H a) :
  s.TypeIs (.ref a) "dict"∧(∀ b,Value.ref a=.ref b→∃ ob,s.heap.get? b=some ob∧ob.dict=none)∧(a==sysModules)=false:=by
 rcases d with ⟨kvs,e⟩ | ⟨kvs,e⟩
 ·obtain ⟨_,hd,vs,_,dd⟩:=dk_rd I.hok e
  refine ⟨dd.typeIs,fun b q=>?_,hd⟩
  cases q
  obtain ⟨ob,_,_,h1,h2,_⟩:=dd
  exact ⟨ob,h1,h2.2.1⟩
 ·obtain ⟨_,hd,xs,_,dd⟩:=dt_rd I.hok e
  refine ⟨dd.typeIs,fun b q=>?_,hd⟩
  cases q
  obtain ⟨ob,_,_,h1,h2,_⟩:=dd
  exact ⟨ob,h1,h2.2.1⟩
section
variable{X:Cx}{pins:List (Addr×Obj)}{σ:St}{H:Hp}{s:Shared}{a:Addr}{y d:V}{u r:Value}{o:Option V}{A:Around}{E:Value→Shared→Prop}
theorem d_get2{Q:Value→Shared→Prop}(hu:A.units+1<cLine)(I:Inv X pins σ H s)(g:DGet H a y o)(ry:RelV y u)(rd:RelV d r)(h:∀ w' s',Inv X pins σ H s'→RelV (o.getD d) w'→Q w' s') :
  wpAny (model X.prog X.w) A (call (.builtin "dict.get") [.ref a,u,r]) Q E s:=by
 rcases g with ⟨kvs,k,e,ey,l⟩ | ⟨kvs,k,b,e,ey,eb,l⟩
 ·subst ey
  obtain ⟨z,hd,vs,rel,dd⟩:=dk_rd I.hok e
  refine call_meetsIn PySem.F.slot_dict_get dd.typeIs PySem.F.entry_dict_get (PySem.F.args_dict_get_3 _ _ _) (meets_dict_get_default (mixKind X.prog X.w) a (kV_is ry) hd r) ⟨_,dd.mapOf,h _ _ (I.tok _) ?_⟩
  rw [l]
  exact (rel.val k).getD rd
 ·subst ey
  cases (show u=Value.ref b from ry)
  obtain ⟨z,hd,xs,rel,dd⟩:=dt_rd I.hok e
  refine call_meetsIn PySem.F.slot_dict_get dd.typeIs PySem.F.entry_dict_get (PySem.F.args_dict_get_3 _ _ _) (meetsH_dict_get_default (tupleKind (mixKind X.prog X.w)) a b hd r) ⟨tupleKind_room_in1 hu,k,xs,key_of I.hok eb,dd,h _ _ (I.tok _) ?_⟩
  rw [l]
  exact (rel.val k).getD rd
end
noncomputable def tDGet2(td ty tx:TE):TE:=fun σ H Q=>td σ H fun x H1=>∃ a,x=.ref a∧IsD H1 a∧ty σ H1 fun y H2=>tx σ H2 fun z H3=>∃ o,DGet H3 a y o∧Q (o.getD z) H3
section
variable{X:Cx}{o e f:Expr}{apos cpos:Pos}{td ty tx:TE}
theorem pe_dget2(hu:X.A.units+1<cLine)(ho:PE X o td)(he:PE X e ty)(hf:PE X f tx)(m:M2 X o "get" apos e f cpos):PE X (.Call (.Attribute o "get" apos) [e,f] [] cpos) (tDGet2 td ty tx):=by
 intro pins s σ H Q I h
 refine wpAny_Call_method m.base m.few m.line PySem.F.plainAttrs_dict PySem.F.slot_dict_get PySem.F.type_dict_get (thn (ho pins s σ H _ I h) fun u s1 ⟨x,H1,I1,rx,a,ex,d,q1⟩=>?_)
 subst ex
 obtain rfl:u=Value.ref a:=rx
 obtain ⟨t1,t2,_⟩:=isD_at I1 d
 refine ⟨t1,t2,?_⟩
 rw [m.trees]
 refine Calls.callWith_builtin rfl (Calls.evalArgs_plain (Calls.spliced_cons (thn (he pins s1 σ H1 _ I1 q1) fun iv s2 ⟨y,H2,I2,ry,q2⟩ =>
  Calls.spliced_cons (thn (hf pins s2 σ H2 _ I2 q2) fun fv s3 ⟨z,H3,I3,rz,ov,g,q3⟩=>Calls.spliced_nil ?_))))
 exact d_get2 hu I3 g ry rz fun w' s4 I4 rw'=>⟨_,H3,I4,rw',q3⟩
end
section
variable{X:Cx}{pins:List (Addr×Obj)}{σ:St}{H:Hp}{s:Shared}{a:Addr}{kvs:List (Key×V)}{A:Around}{E:Value→Shared→Prop}
end
section
variable{X:Cx}{pins:List (Addr×Obj)}{σ:St}{H:Hp}{s:Shared}{a:Addr}{y:V}{u:Value}{A:Around}{E:Value→Shared→Prop}
end
end L2
namespace L2
open PySem PySem.Spec PyProof.Rows
section
variable{X:Cx}
end
section
variable{κ:Type}[DecidableEq κ]
end
end L2
namespace L2
open PySem PySem.Spec PyProof.Rows
section
variable{X:Cx}
end
end L2
namespace L2
open PySem PySem.Spec PyProof.Rows
theorem rel_key{k:Key}{v:Value}(h:keyIs k v=true):RelV (kV k) v:=by
 rcases keyIs_shape h with ⟨i,t,rfl,rfl⟩ | ⟨x,t,rfl,rfl⟩ <;> exact ⟨_,rfl⟩
theorem KV.at{kvs:List (Key×V)}{vs:List (Key×Value)}(r:KV kvs vs):∀ {i:Nat} {p:Key×V},kvs[i]?=some p→∃ u,vs[i]?=some (p.1,u)∧RelV p.2 u:=by
 unfold KV at r
 induction r with
 | nil=>intro i p e;simp at e
 | @cons a b as bs h t ih =>
  intro i p e
  cases i with
  | zero =>
   simp at e
   subst e
   exact ⟨b.2,by rw [h.1];rfl,h.2⟩
  | succ i=>simpa using ih (i:=i) (p:=p) (by simpa using e)
section
variable{X:Cx}{pins:List (Addr×Obj)}{σ:St}{H:Hp}{s:Shared}{a:Addr}{o:Obj}{kvs:List (Key×V)}
theorem Inv.freeze(I:Inv X pins σ H s)(e:H a=some (.dK kvs))(ho:s.heap.get? a=some o):Inv X pins σ (upd H a (.frz o (.dK kvs))) s :=
 I.write (x:=a) (e:=a) (t':=s.toks) (h':=s.heap) (by rw [e];trivial) (.inl rfl) (fun b q _ z=>z) ⟨o,ho⟩ ⟨ho,I.hok a _ e⟩
theorem Inv.thaw(I:Inv X pins σ H s)(e:H a=some (.frz o (.dK kvs)))(hb:∀ o u,X.H₀ a≠some (.frz o u)):Inv X pins σ (upd H a (.dK kvs)) s:=by
 have ne:∀ b,H b=none→b≠a:=fun b n z=>by rw [z,e] at n;cases n
 refine ⟨I.ok,I.os,I.bare,⟨I.base.keep,I.base.slot,fun b ob q n hx=>?_,I.base.there,fun b xs q=>?_,fun b ob u q=>?_,fun b ps q=>?_⟩,I.loc,I.cell,?_,fun x c q=>?_,fun p hp=>?_,fun b u q=>?_,I.len⟩
 ·have:=I.base.free b ob q n hx
  rw [upd_ne (ne b this)];exact this
 ·have q':=I.base.tups b xs q
  rw [upd_ne (fun z=>by rw [z,e] at q';cases q')];exact q'
 ·have q':=I.base.frzs b ob u q
  rw [upd_ne (fun z=>hb ob u (by rw [← z];exact q))];exact q'
 ·obtain ⟨m,q'⟩:=I.base.tbls b ps q
  exact ⟨m,by rw [upd_ne (fun z=>by rw [z,e] at q';cases q')];exact q'⟩
 ·rw [upd_ne (ne _ I.free)];exact I.free
 ·rw [upd_ne (ne _ (I.freeC x c q))];exact I.freeC x c q
 ·obtain ⟨h1,h2,h3⟩:=I.pin p hp
  exact ⟨h1,by rw [upd_ne (ne _ h2)];exact h2,h3⟩
 ·by_cases hba:b=a
  ·subst hba
   rw [upd_same] at q
   cases q
   exact (I.hok b _ e).2
  ·rw [upd_ne hba] at q
   refine (I.hok b u q).stay (fun _ _ _ z=>z) (fun c z=>?_) fun c xs z=>?_
   ·rw [upd_ne (fun y=>by rw [y,e] at z;cases z)];exact z
   ·rw [upd_ne (fun y=>by rw [y,e] at z;cases z)];exact z
noncomputable def tThaw(H₀:Hp)(u:TS):TS:=fun D σ H=>∃ a o kvs,H a=some (.frz o (.dK kvs))∧(∀ o u,H₀ a≠some (.frz o u))∧u D σ (upd H a (.dK kvs))
theorem pss_thaw{rest:List Stmt}{u:TS}(h:PSs X rest u):PSs X rest (tThaw X.H₀ u):=fun pins s σ H D I q=>by
 obtain ⟨a,o,kvs,e,hb,q⟩:=q
 exact h pins s σ _ D (I.thaw e hb) q
end
noncomputable def Itd(a:Addr)(o:Obj)(kvs:List (Key×V)):It :=
 ⟨fun i H=>H a=some (.frz o (.dK kvs))∧i<kvs.length,fun i H x H'=>H'=H∧∃ k v,kvs[i]?=some (k,v)∧x=kV k,fun i H=>H a=some (.frz o (.dK kvs))∧kvs.length≤i⟩
theorem turn_dict{P:Program}{w:World}{K:PySem.W.Frag}{tg:Expr}{a it:Addr}{o:Obj}{kvs:List (Key×V)}{vs:List (Key×Value)}{ep:Nat}(rel:KV kvs vs)
  (da:∀ h:Heap,h.get? a=some o→h.DictAt (mixKind P w) a vs ep):Turn P w K tg (Itd a o kvs) [it] it (fun i h=>h.IsKeyIter it a i vs.length ep) where
 mem:=by simp
 obj:=fun i h st b hb=>by
  have e:b=it:=by simpa using hb
  subst e
  obtain ⟨o,e,c,d⟩:=st
  exact ⟨o,e,fun v z=>by rw [d] at z;cases z⟩
 keep:=fun i h h' st k=>st.at fun o e=>k it (by simp) o e
 item:=by
  intro X hP hw hK hc i pins s σ H E I hf st hg
  subst hP hw hK
  obtain ⟨hq,hi⟩:=hg
  obtain ⟨f0,f1,f2,f3,f4,f5⟩:=hf it (by simp)
  have hx:kvs[i]?=some kvs[i]:=by simp [hi]
  obtain ⟨u,hu,ru⟩:=rel.at hx
  refine wpAny_pyNext_dict_item st (da _ (I.hok a _ hq).1) hu fun key h' hk st' sb=>?_
  have I1:Inv X pins σ H {s with heap:=h'}:=I.turned (t':=s.toks) (fun b o hb e=>(sb.2 b hb).trans e) f0 f1 f3 f4 f5
  obtain ⟨oi,e,c,d⟩:=id st'
  exact ⟨key,rfl,go_of (s:={s with heap:=h'}) e c d (by decide) ⟨kV (kvs[i]).1,H,I1,rel_key hk,⟨rfl,(kvs[i]).1,(kvs[i]).2,hx,rfl⟩,st',fun b hb=>(hf b hb).1⟩⟩
 done:=by
  intro X hP hw hK hc i pins s σ H E I hf st hg
  subst hP hw hK
  obtain ⟨hq,hi⟩:=hg
  obtain ⟨f0,f1,f2,f3,f4,f5⟩:=hf it (by simp)
  have hl:=rel.length
  exact wpAny_pyNext_dict_end (I.ok.hd hc) st (da _ (I.hok a _ hq).1) (by simp;omega) fun h' eb=>⟨rfl,I.turned (t':=s.toks) (fun b o hb e=>eb b o hb e) f0 f1 f3 f4 f5⟩
 self:=fun _ _ _ _ _ st h=>wpAny_pyIter_keyiter st h
noncomputable def iDict(tl:TE):TI:=fun σ H R=>tl σ H fun x H1=>∃ a kvs,x=.ref a∧H1 a=some (.dK kvs)∧∀ o,R (Itd a o kvs) (upd H1 a (.frz o (.dK kvs)))
theorem pi_dict{X:Cx}{tg l:Expr}{tl:TE}(hl:PE X l tl):PI X tg l (iDict tl):=by
 intro pins s σ H R I h
 refine thn (hl pins s σ H _ I h) fun v s1 ⟨x,H1,I1,r1,q1⟩=>?_
 obtain ⟨a,kvs,e,he,q⟩:=q1
 subst e
 cases r1
 obtain ⟨z,hd,vs,rel,o,es,ep,ho,dd⟩:=dk_of I1.hok he
 refine wpAny_pyIter_dict hd (ep:=ep) ⟨o,es,ho,dd⟩ ?_
 have I2:=I1.freeze he ho
 refine ⟨s1.heap.objs.size,[s1.heap.objs.size],_,_,_,rfl,I2.kept (t':=s1.toks) fun b o e=>Heap.get?_push_of_some _ e,turn_dict (ep:=ep) rel fun h e=>⟨o,es,e,dd⟩,⟨_,Heap.get?_push_size _ rfl,rfl,rfl⟩,fun b hb=>?_,q o⟩
 have e:b=s1.heap.objs.size:=by simpa using hb
 subst e
 exact I2.fpOk (Nat.le_refl _) (I2.hok.fresh (Nat.le_refl _))
theorem for_dict{a:Addr}{o:Obj}{kvs:List (Key×V)}{g:TG}{tb:TS}{D:Ends}{σ:St}{H:Hp}(Pv:Nat→St→Hp→Prop)(h0:Pv 0 σ H)(hl:∀ i σ H,i≤kvs.length→Pv i σ H→H a=some (.frz o (.dK kvs)))
  (hs:∀ i k v σ H,kvs[i]?=some (k,v)→Pv i σ H→g (kV k) σ H fun σ2 H2=>tb {D with nx:=Pv (i+1),ct:=Pv (i+1),bk:=D.nx} σ2 H2) (hd:∀ σ H,Pv kvs.length σ H→D.nx σ H) :
  ∃ W:Nat→Nat→St→Hp→Prop,(∃ m,W 0 m σ H)∧∀ i m σ H,W i m σ H→
   ((Itd a o kvs).stop i H∧D.nx σ H)∨((Itd a o kvs).go i H∧∃ N:St→Hp→Prop,(∀ σ' H',N σ' H'→∃ m',m'<m∧W (i+1) m' σ' H')∧∀ x H',(Itd a o kvs).yld i H x H'→g x σ H' fun σ2 H2=>tb {D with nx:=N,ct:=N,bk:=D.nx} σ2 H2):=by
 refine ⟨fun i m σ H=>m=kvs.length - i∧i≤kvs.length∧Pv i σ H,⟨kvs.length,by simp,Nat.zero_le _,h0⟩,?_⟩
 rintro i m σ H ⟨rfl,hi,p⟩
 have q:=hl i σ H hi p
 by_cases hlt:i<kvs.length
 ·refine .inr ⟨⟨q,hlt⟩,Pv (i+1),fun σ' H' p'=>⟨kvs.length - (i+1),by omega,rfl,hlt,p'⟩,fun x H' y=>?_⟩
  obtain ⟨e,k,v,hk,rfl⟩:=y
  subst e
  exact hs i k v σ _ hk p
 ·have e:i=kvs.length:=by omega
  subst e
  exact .inl ⟨⟨q,Nat.le_refl _⟩,hd σ H p⟩
theorem comp_dict{a:Addr}{o:Obj}{kvs:List (Key×V)}{G:V→Hp→(List V→Hp→Prop)→List V→Prop}{Fin:List V→Hp→Prop}{H:Hp}(Pv:Nat→List V→Hp→Prop)(h0:Pv 0 [] H)(hl:∀ i ys H,i≤kvs.length→Pv i ys H→H a=some (.frz o (.dK kvs)))
  (hs:∀ i k v ys H,kvs[i]?=some (k,v)→Pv i ys H→ys.length<sizeLine∧G (kV k) H (Pv (i+1)) ys) (hd:∀ ys H,Pv kvs.length ys H→Fin ys H) :
  ∃ W:Nat→Nat→List V→Hp→Prop,(∃ m,W 0 m [] H)∧∀ i m ys H,W i m ys H→
   ((Itd a o kvs).stop i H∧Fin ys H)∨((Itd a o kvs).go i H∧ys.length<sizeLine∧∃ Nx:List V→Hp→Prop,(∀ ys' H',Nx ys' H'→∃ m',m'<m∧W (i+1) m' ys' H')∧∀ x H',(Itd a o kvs).yld i H x H'→G x H' Nx ys):=by
 refine ⟨fun i m ys H=>m=kvs.length - i∧i≤kvs.length∧Pv i ys H,⟨kvs.length,by simp,Nat.zero_le _,h0⟩,?_⟩
 rintro i m ys H ⟨rfl,hi,p⟩
 have q:=hl i ys H hi p
 by_cases hlt:i<kvs.length
 ·have a1:=hs i kvs[i].1 kvs[i].2 ys H (by simp [hlt]) p
  refine .inr ⟨⟨q,hlt⟩,a1.1,Pv (i+1),fun ys' H' p'=>⟨kvs.length - (i+1),by omega,rfl,hlt,p'⟩,fun x H' y=>?_⟩
  obtain ⟨e,k,v,hk,rfl⟩:=y
  subst e
  exact (hs i k v ys _ hk p).2
 ·have e:i=kvs.length:=by omega
  subst e
  exact .inl ⟨⟨q,Nat.le_refl _⟩,hd ys H p⟩
end L2
namespace L2
open PySem PySem.Spec PyProof.Rows
noncomputable def Iti(a:Addr)(o:Obj)(kvs:List (Key×V)):It :=
 ⟨fun i H=>H a=some (.frz o (.dK kvs))∧i<kvs.length,fun i H v H'=>∃ t k x,v=.ref t∧H t=none∧kvs[i]?=some (k,x)∧H'=upd H t (.tup [kV k,x]),fun i H=>H a=some (.frz o (.dK kvs))∧kvs.length≤i⟩
theorem turn_items{P:Program}{w:World}{K:PySem.W.Frag}{elts:List Expr}{x1}{pos:Pos}{a it:Addr}{o:Obj}{kvs:List (Key×V)}{vs:List (Key×Value)}{ep:Nat}(rel:KV kvs vs)
  (da:∀ h:Heap,h.get? a=some o→h.DictAt (mixKind P w) a vs ep):Turn P w K (.Tuple elts x1 pos) (Iti a o kvs) [it] it (fun i h=>∃ ok ov,IsItemIter h it a i vs.length ep ok ov) where
 mem:=by simp
 obj:=fun i h st b hb=>by
  obtain ⟨ok,ov,h1⟩:=st
  have e:b=it:=by simpa using hb
  subst e
  exact ⟨_,h1,fun v z=>by cases z⟩
 keep:=fun i h h' st k=>by
  obtain ⟨ok,ov,h1⟩:=st
  exact ⟨ok,ov,k it (by simp) _ h1⟩
 item:=by
  intro X hP hw hK hc i pins s σ H E I hf st hg
  subst hP hw hK
  obtain ⟨ok,ov,h1⟩:=st
  obtain ⟨hq,hi⟩:=hg
  have hx:kvs[i]?=some kvs[i]:=by simp [hi]
  obtain ⟨u,hu,ru⟩:=rel.at hx
  have e1:=Heap.lt_size h1
  refine wpAny_pyNext_items_item h1 (da _ (I.hok a _ hq).1) hu fun key h' hk g1 g3 gz g5=>⟨_,rfl,?_⟩
  refine wpAny_letOwnedTupleGo_items g1 fun h2' g6 g7=>?_
  have kk:∀ b o,b∉[it]→s.heap.get? b=some o→h2'.get? b=some o:=fun b o hb q=>g7.extBut b o (fun z=>hb (by simp [z])) (g5 b o (fun z=>hb (by simp [z])) q)
  have tT:h2'.get? s.heap.objs.size=some {cls:=.type "tuple",data:=.seq #[key,u]}:=g7.extBut _ _ (Nat.ne_of_gt e1) g3
  have I1:=I.turnedNew (t':=s.toks) (T:=s.heap.objs.size) (o:=.tup [kV (kvs[i]).1,(kvs[i]).2]) kk hf (Nat.le_refl _) ⟨by show 2≤sizeLine;decide,[key,u],.cons (rel_key hk) (.cons ru .nil),⟨_,tT,rfl,_,rfl⟩⟩
  have hn:H s.heap.objs.size=none:=I.hok.fresh (Nat.le_refl _)
  refine ⟨.ref s.heap.objs.size,_,I1,rfl,⟨_,_,_,rfl,hn,hx,rfl⟩,⟨_,_,g6⟩,fun b hb=>?_⟩
  obtain ⟨f0,_⟩:=hf b hb
  have e:b=it:=by simpa using hb
  subst e
  rw [upd_ne (Nat.ne_of_lt e1)];exact f0
 done:=by
  intro X hP hw hK hc i pins s σ H E I hf st hg
  subst hP hw hK
  obtain ⟨ok,ov,h1⟩:=st
  obtain ⟨hq,hi⟩:=hg
  have hl:=rel.length
  exact wpAny_pyNext_items_end (I.ok.hd hc) h1 (da _ (I.hok a _ hq).1) (by simp;omega) fun h' eb=>⟨rfl,I.turnedL (t':=s.toks) (ch:=[it]) (fun b o hb q=>eb b o (fun z=>hb (by simp [z])) q) hf⟩
 self:=fun _ _ _ _ _ st h=>by
  obtain ⟨ok,ov,h1⟩:=st
  have hT:Shared.TypeIs _ (.ref it) "dict_itemiterator":=⟨_,h1,rfl⟩
  refine wpAny_pyIter_slot hT PySem.F.slot_dict_itemiterator_iter (wpAny_call_entry PySem.F.slot_dict_itemiterator_iter hT PySem.W.kcp_entry ?_ (PySem.F.args_dict_itemiterator_iter_1 _))
  show wpAny _ _ (ret (.ref it)) _ _ _
  exact wpAny_pure ⟨_,rfl,"dict_itemiterator",_,hT,PySem.F.slot_dict_itemiterator_next.lookup,h⟩
noncomputable def iItems(tl:TE):TI:=fun σ H R=>tl σ H fun x H1=>∃ a kvs,x=.ref a∧H1 a=some (.dK kvs)∧∀ o,R (Iti a o kvs) (upd H1 a (.frz o (.dK kvs)))
theorem pi_items{X:Cx}{o:Expr}{td:TE}{elts:List Expr}{x1}{apos cpos tpos:Pos}(ho:PE X o td)(hbase:attributeBase o "items" X.env (eval o X.env)=eval o X.env:=by rfl)(hline:(apos.endLine==cpos.line)=true:=by rfl) :
  PI X (.Tuple elts x1 tpos) (.Call (.Attribute o "items" apos) [] [] cpos) (iItems td):=by
 intro pins s σ H R I h
 refine wpAny_Call_method0_late hbase hline (thn (ho pins s σ H _ I h) fun v s1 ⟨x,H1,I1,r1,a,kvs,ex,he,q⟩=>?_)
 subst ex
 obtain rfl:v=Value.ref a:=r1
 obtain ⟨t1,t2,_⟩:=isD_at I1 (.inl ⟨kvs,.inl he⟩)
 obtain ⟨z,hd,vs,rel,dd⟩:=dk_of I1.hok he
 refine ⟨"dict","dict.items",PySem.F.plainAttrs_dict,PySem.F.slot_dict_items,PySem.F.type_dict_items,t1,t2,Calls.callWith_builtin rfl (PySem.evalArgs_none ?_)⟩
 refine call_meetsIn PySem.F.slot_dict_items dd.typeIs PySem.F.entry_dict_items (PySem.F.args_dict_items_1 _) (meets_dict_items (mixKind X.prog X.w) a hd) ⟨⟨_,dd⟩,?_⟩
 have I2:=I1.kept (t':=s1.toks) (h':=s1.heap.push {cls:=.type "dict_items",data:=.fields #[.ref a]}) fun b o e=>Heap.get?_push_of_some _ e
 obtain ⟨ob,es,ep,hob,rest⟩:=dd
 have hob2:=Heap.get?_push_of_some {cls:=.type "dict_items",data:=.fields #[.ref a]} hob
 have I3:=I2.freeze he hob2
 show wpAny _ _ (pyIter (.ref s1.heap.objs.size)) _ _ _
 refine wpAny_pyIter_items (d:=a) (kvs:=vs) (ep:=ep) ⟨_,Heap.get?_push_size _ rfl,rfl,rfl⟩ ⟨ob,es,hob2,rest⟩ ?_
 refine ⟨_,[_],_,_,_,rfl,I3.kept (t':=s1.toks) fun b o e=>Heap.get?_push_of_some _ e,turn_items (ep:=ep) rel fun h e=>⟨ob,es,e,rest⟩,⟨_,_,Heap.get?_push_size _ rfl⟩,fun b hb=>?_,q ob⟩
 have e:=List.mem_singleton.mp hb
 subst e
 exact I3.fpOk (Nat.le_refl _) (I3.hok.fresh (Nat.le_refl _))
theorem for_items{a:Addr}{o:Obj}{kvs:List (Key×V)}{g:TG}{tb:TS}{D:Ends}{σ:St}{H:Hp}(Pv:Nat→St→Hp→Prop)(h0:Pv 0 σ H)(hl:∀ i σ H,i≤kvs.length→Pv i σ H→H a=some (.frz o (.dK kvs)))
  (hs:∀ i k v σ H t,kvs[i]?=some (k,v)→Pv i σ H→H t=none→g (.ref t) σ (upd H t (.tup [kV k,v])) fun σ2 H2=>tb {D with nx:=Pv (i+1),ct:=Pv (i+1),bk:=D.nx} σ2 H2) (hd:∀ σ H,Pv kvs.length σ H→D.nx σ H) :
  ∃ W:Nat→Nat→St→Hp→Prop,(∃ m,W 0 m σ H)∧∀ i m σ H,W i m σ H→
   ((Iti a o kvs).stop i H∧D.nx σ H)∨((Iti a o kvs).go i H∧∃ N:St→Hp→Prop,(∀ σ' H',N σ' H'→∃ m',m'<m∧W (i+1) m' σ' H')∧∀ x H',(Iti a o kvs).yld i H x H'→g x σ H' fun σ2 H2=>tb {D with nx:=N,ct:=N,bk:=D.nx} σ2 H2):=by
 refine ⟨fun i m σ H=>m=kvs.length - i∧i≤kvs.length∧Pv i σ H,⟨kvs.length,by simp,Nat.zero_le _,h0⟩,?_⟩
 rintro i m σ H ⟨rfl,hi,p⟩
 have q:=hl i σ H hi p
 by_cases hlt:i<kvs.length
 ·refine .inr ⟨⟨q,hlt⟩,Pv (i+1),fun σ' H' p'=>⟨kvs.length - (i+1),by omega,rfl,hlt,p'⟩,fun x H' y=>?_⟩
  obtain ⟨t,k,v,rfl,ht,hk,rfl⟩:=y
  exact hs i k v σ H t hk p ht
 ·have e:i=kvs.length:=by omega
  subst e
  exact .inl ⟨⟨q,Nat.le_refl _⟩,hd σ H p⟩
end L2
namespace Srt
open PySem PyProof.Rows
structure Ok(a₀:Array Keyed)(p:Array (Nat×Nat×Nat))(st:SortSt):Prop where
 perm:(arrOf st).Perm a₀
 kind:kindOf st=oneType'
 failed:failedOf st=none
 pend:pendingOf st=p
noncomputable abbrev IntK(x:Keyed):Prop:=∃ n t,x.1=.int n t
section
variable{prog:Program}{w:World}{A:Around}{E:Value→Shared→Prop}{s:Shared}{a₀:Array Keyed}{p:Array (Nat×Nat×Nat)}{st:SortSt}
end
end Srt
namespace Srt
open PySem PyProof.Rows
section
variable{prog:Program}{w:World}{A:Around}{E:Value→Shared→Prop}{s:Shared}{st:SortSt}
end
end Srt
namespace Srt
open PySem PyProof.Rows
noncomputable abbrev Outs(a b:Array Keyed)(o:Array Keyed)(i j:Nat):Prop:=o.toList.Perm (a.toList.take i++b.toList.take j)
section
variable{a b o:Array Keyed}{i j k:Nat}
end
end Srt
namespace Srt
open PySem PyProof.Rows
noncomputable abbrev Still(a₀:Array Keyed)(p:Array (Nat×Nat×Nat))(x:Array Keyed)(st:SortSt):Prop:=Ok a₀ p st∧arrOf st=x
section
variable{prog:Program}{w:World}{A:Around}{E:Value→Shared→Prop}{s:Shared}{st:SortSt}{a₀ x₀:Array Keyed}{p:Array (Nat×Nat×Nat)}
noncomputable abbrev LoOn(a b:Array Keyed)(m:Nat)(o:Array Keyed)(i j:Nat):Prop:=Outs a b o i j∧i+1<a.size∧j<b.size∧m≤i+j
theorem nbeq{a b:Nat}(h:¬ a=b):¬ (a==b)=true:=fun z=>h (beq_iff_eq.mp z)
theorem wpS_beq{α:Type}{x y:Nat}{a b:StateT SortSt Sem α}{Q:α→SortSt→Prop}(h1:x=y→wpS (model prog w) A E s a Q st)(h2:¬ x=y→wpS (model prog w) A E s b Q st):wpS (model prog w) A E s (if (x==y)=true then a else b) Q st:=by
 by_cases h:x=y
 ·rw [if_pos (beq_iff_eq.mpr h)];exact h1 h
 ·rw [if_neg (nbeq h)];exact h2 h
theorem wpS_ite{α:Type}{c:Prop}[Decidable c]{a b:StateT SortSt Sem α}{Q:α→SortSt→Prop}(h1:c→wpS (model prog w) A E s a Q st)(h2:¬ c→wpS (model prog w) A E s b Q st):wpS (model prog w) A E s (if c then a else b) Q st:=by
 by_cases h:c
 ·rw [if_pos h];exact h1 h
 ·rw [if_neg h];exact h2 h
theorem via1{T:Nat→Prop}{G:Prop}(key:∀ g',T g')(main:(∀ g',T g')→G):G:=main key
theorem via3{T:Array Keyed→Nat→Nat→Prop}{G:Prop}(P:Array Keyed→Nat→Prop)(key:∀ o i k,P o i→T o i k)(main:(∀ o i k,P o i→T o i k)→G):G:=main key
end
end Srt
namespace Srt
open PySem PyProof.Rows
noncomputable abbrev Behind(a b:Array Keyed)(o:Array Keyed)(i j:Nat):Prop:=o.toList.Perm (a.toList.drop i++b.toList.drop j)
section
variable{a b o:Array Keyed}{i j k:Nat}
end
section
variable{prog:Program}{w:World}{A:Around}{E:Value→Shared→Prop}{s:Shared}{st:SortSt}{a₀ x₀:Array Keyed}{p:Array (Nat×Nat×Nat)}
noncomputable abbrev HiOn(a b:Array Keyed)(m:Nat)(o:Array Keyed)(i j:Nat):Prop:=Behind a b o i j∧(1≤i∧i≤a.size)∧(2≤j∧j≤b.size)∧m+i+j≤a.size+b.size
end
end Srt
namespace Srt
open PySem PyProof.Rows
section
variable{prog:Program}{w:World}{A:Around}{E:Value→Shared→Prop}{s:Shared}{st:SortSt}{a₀ x₀:Array Keyed}{p:Array (Nat×Nat×Nat)}
end
end Srt
namespace Srt
open PySem PyProof.Rows
section
variable{prog:Program}{w:World}{A:Around}{E:Value→Shared→Prop}{s:Shared}{st:SortSt}{a₀ x₀:Array Keyed}{p:Array (Nat×Nat×Nat)}
end
end Srt
namespace Srt
open PySem PyProof.Rows
section
variable{prog:Program}{w:World}{A:Around}{E:Value→Shared→Prop}{s:Shared}
end
end Srt
namespace Srt
open PySem PyProof.Rows
section
variable{prog:Program}{w:World}{A:Around}{E:Value→Shared→Prop}{s:Shared}{T:String}{r d:Addr}{n:Nat}{P:Nat→Value→Prop}{OK:Heap→Prop}
end
end Srt
namespace L2
open PySem PySem.Spec PyProof.Rows
section
variable{X:Cx}
end
end L2
namespace PySem
open Sem (wp)
end PySem
namespace PySem
open Sem (wp)
namespace F
end F
section
variable{prog:Program}{w:World}{A:Around}{R:Result→Shared→Prop}{I:Addr}{fp wr:List Addr}{G:Array GenState→Array GenState→Prop}{n:Nat}{P:Nat→Value→Prop}{St:Nat→Shared→Prop}
variable{K:Type}[DecidableEq K]{knd:KeyKind prog w K}
end
end PySem
namespace PySem
open Sem (wp)
section
variable{prog:Program}{w:World}{A:Around}{E:Value→Shared→Prop}{s:Shared}
variable{K:Type}[DecidableEq K]{knd:KeyKind prog w K}
end
end PySem
namespace Me
noncomputable def look(f:List (Int×Int))(k:Int):Option Int:=(f.find? fun q=>decide (q.1=k)).map (·.2)
noncomputable def put(f:List (Int×Int))(k v:Int):List (Int×Int) :=
 if (f.any fun p=>decide (p.1=k))=true then f.map (fun p=>if p.1=k then (p.1,v) else p) else f++[(k,v)]
noncomputable def addTo(f:List (Int×Int))(k n:Int):List (Int×Int):=put f k ((look f k).getD 0+n)
noncomputable def figs(p:Int×Int)(w:Int)(n:Nat)(acc:List (Int×Int)):List (Int×Int):=(List.range n).foldl (fun acc (d:Nat)=>addTo acc (p.1+(d:Int)*w) p.2) acc
noncomputable def oneMore(f:List (Int×Int))(b:Nat)(w:Int):List (Int×Int):=f.foldl (fun acc p=>figs p w b acc) []
noncomputable def waysW(b:Nat)(ws:List Int):List (Int×Int):=ws.foldl (fun f w=>oneMore f b w) [(0,1)]
noncomputable abbrev keys(f:List (Int×Int)):List Int:=f.map (·.1)
structure Ok(f:List (Int×Int))(m:Int):Prop where
 nd:(keys f).Nodup
 bd:∀ x∈keys f,-m≤x∧x≤m
theorem step_in{m x w:Int}{d b:Nat}(hx : -m≤x∧x≤m)(hw : -9≤w∧w≤9)(hb:b≤16)(hd:d<b) : -(m+135)≤x+(d:Int)*w∧x+(d:Int)*w≤m+135:=by
 have d0:(0:Int)≤d:=by omega
 have d15:(d:Int)≤15:=by omega
 have a1:(d:Int)*w≤d*9:=Int.mul_le_mul_of_nonneg_left hw.2 d0
 have a2:(d:Int)*(-9)≤d*w:=Int.mul_le_mul_of_nonneg_left hw.1 d0
 omega
theorem sub_len{α:Type}[DecidableEq α]:∀ {l m:List α},l.Nodup→(∀ x∈l,x∈m)→l.length≤m.length
 | [],_,_,_=>Nat.zero_le _
 | x::l,m,nd,h=>by
  have hx:=h x (by simp)
  have hn:=(List.nodup_cons.mp nd).1
  have:=sub_len (l:=l) (m:=m.erase x) (List.nodup_cons.mp nd).2 fun y hy=>(List.mem_erase_of_ne (show y≠x from fun e=>hn (by rw [← e];exact hy))).mpr (h y (List.mem_cons_of_mem _ hy))
  rw [List.length_erase_of_mem hx] at this
  have hp:0<m.length:=List.length_pos_of_mem hx
  simp only [List.length_cons]
  omega
theorem Ok.len{f:List (Int×Int)}{m:Nat}(o:Ok f m):f.length≤2*m+1:=by
 have h:=sub_len (l:=keys f) (m:=(List.range (2*m+1)).map fun (i:Nat)=>(i:Int) - m) o.nd fun x hx=>by
  have:=o.bd x hx
  refine List.mem_map.mpr ⟨(x+m).toNat,List.mem_range.mpr (by omega),by omega⟩
 simpa [keys] using h
end Me
namespace L2
open PySem PySem.Spec PyProof.Rows
theorem Paired.at{α β:Type}{R:α→β→Prop}{as:List α}{bs:List β}{i:Nat}{a:α}(h:Paired R as bs)(e:as[i]?=some a):∃ b,bs[i]?=some b∧R a b:=by
 induction h generalizing i with
 | nil=>simp at e
 | cons r _ ih =>
  cases i with
  | zero=>simp at e;subst e;exact ⟨_,rfl,r⟩
  | succ i =>
   obtain ⟨b,h1,h2⟩:=ih (i:=i) (by simpa using e)
   exact ⟨b,by simpa using h1,h2⟩
noncomputable abbrev PairsAt(H:Hp)(ts:List Addr)(kvs:List (Key×V)):Prop:=Paired (fun (t:Addr) (p:Key×V)=>H t=some (.tup [kV p.1,p.2])) ts kvs
section
variable{X:Cx}{o:Expr}{td:TE}
end
section
variable{X:Cx}
end
end L2
namespace L2
open PySem PySem.Spec PyProof.Rows
section
variable{X:Cx}
theorem call_sumA(hc:X.calm=true):CallR X (.builtin "sum") (fun xs H Q=>∃ (p:Addr) (ns:List Int),xs=[.ref p]∧SqL X.K H p (ns.map V.int)∧Q (.int ns.sum) H):=by
 intro pins s σ H xs us Q I r h
 obtain ⟨p,ns,rfl,hq,q⟩:=h
 obtain ⟨u,rfl,rx⟩:=vals1 r
 cases rx
 obtain ⟨its,rv,pl,hz⟩:=I.list hq
 have hl:=pl.isList
 have hlt:p<s.heap.objs.size:=by obtain ⟨_,e,_⟩:=hl;exact Heap.lt_size e
 have hn:its.toArray.size=ns.length:=by rw [List.size_toArray,← rv.length,List.length_map]
 refine call_sum_walkG (wpAny_pyIter_list hl ?_)
 refine ⟨_,_,_,_,_,_,fun i=>(ns[i]?).getD 0,rfl,Walks.list (A:=X.A.in1) (I.ok.hd hc) s.heap.objs.size p (Nat.ne_of_lt hlt) its.toArray,⟨⟨_,Heap.get?_push_size _ rfl,rfl,rfl⟩,hl.push _⟩,fun b hb'=>?_,fun i v hP=>?_,fun h' tk t' hk=>?_⟩
 ·show b<(s.heap.push _).objs.size
  rw [Heap.size_push]
  rcases List.mem_cons.mp hb' with rfl | hb'
  ·exact Nat.lt_succ_self _
  ·have e:b=p:=by simpa using hb'
   rw [e];exact Nat.lt_succ_of_lt hlt
 ·have hv:its[i]?=some v:=by simpa using hP
  cases eb:ns[i]? with
  | none =>
   have:=rv.none_of (i:=i) (by rw [List.getElem?_map,eb];rfl)
   rw [this] at hv;cases hv
  | some b =>
   obtain ⟨u,hu,ru⟩:=rv.get (i:=i) (x:=.int b) (by rw [List.getElem?_map,eb];rfl)
   rw [hu] at hv;cases hv
   obtain ⟨t,rfl⟩:=ru
   exact ⟨t,by simp [eb]⟩
 ·rw [hn,pre_take ns ns.length (Nat.le_refl _),List.take_length]
  exact ⟨.int _,H,(show Inv X pins σ H {s with heap:=h',toks:=tk} from seen I hk),⟨_,rfl⟩,q⟩
end
end L2
namespace Hv
open PySem L2
section
variable{P:Program}{w:World}{K:PySem.W.Frag}{mg:Str→Option Value}{base:Heap}
theorem scWhole:FnScope ["thing"] ["thing"] (defScope sWhole):=⟨rfl,rfl,rfl,by decide +kernel,rfl,by decide +kernel,by decide +kernel⟩
theorem ok_whole{f:Addr}{fd:FuncData}(F:Fun K "is_whole" "is_whole" sWhole f fd)(T:Txt mg):FnOk P w K mg base CX0 1 f fd ["thing"] spWhole:=by
 refine F.ok scWhole (fun vs H Q E h=>?_) (fun cdv A outer s H vs Q E hr h=>?_)
 ·obtain ⟨v,rfl,_⟩:=h;rfl
 ·obtain ⟨v,rfl,ty,k⟩:=h
  refine ⟨_,pss_one (ps_ret (pe_and (pe_callB call_isi (by rfl) T.isi boot_isinstance (pa_cons (pv 0) (pa_cons (pe_ty T.int boot_int) pa_nil)))
   (pe_one (pe_not (pe_callB call_isi (by rfl) T.isi boot_isinstance (pa_cons (pv 0) (pa_cons (pe_ty T.bool boot_bool) pa_nil))))))),?_⟩
  cases ty with
  | non=>exact ⟨_,rfl,_,_,_,_,rfl,.non,kit_ni,false,rfl,iteF k⟩
  | bl b=>exact ⟨_,rfl,_,_,_,_,rfl,.bl b,kit_bi,true,rfl,iteT ⟨_,rfl,_,_,_,_,rfl,.bl b,kit_bb,true,rfl,k⟩⟩
  | int i=>exact ⟨_,rfl,_,_,_,_,rfl,.int i,kit_ii,true,rfl,iteT ⟨_,rfl,_,_,_,_,rfl,.int i,kit_ib,false,rfl,k⟩⟩
  | str x=>exact ⟨_,rfl,_,_,_,_,rfl,.str x,kit_si,false,rfl,iteF k⟩
  | lst e=>exact ⟨_,rfl,_,_,_,_,rfl,.lst e,kit_li,false,rfl,iteF k⟩
  | tup e=>exact ⟨_,rfl,_,_,_,_,rfl,.tup e,kit_ti,false,rfl,iteF k⟩
  | dK e=>exact ⟨_,rfl,_,_,_,_,rfl,.dK e,kit_di,false,rfl,iteF k⟩
theorem scBetw:FnScope ["thing","least","greatest"] ["thing","least","greatest"] (defScope sBetw):=⟨rfl,rfl,rfl,by decide +kernel,rfl,by decide +kernel,by decide +kernel⟩
theorem ok_betw{f:Addr}{fd:FuncData}(F:Fun K "is_between" "is_between" sBetw f fd)(D1:Def P w K mg base 1 "is_whole" ["thing"] spWhole):FnOk P w K mg base CX0 2 f fd ["thing","least","greatest"] spBetw:=by
 refine F.ok scBetw (fun vs H Q E h=>?_) (fun cdv A outer s H vs Q E hr h=>?_)
 ·obtain ⟨v,lo,hi,rfl,_⟩:=h;rfl
 ·obtain ⟨v,lo,hi,rfl,ty,k⟩:=h
  refine ⟨_,pss_one (ps_ret (pe_and (pe_fn D1 hr (by rfl) (pa_cons (pv 0) pa_nil)) (pe_one (pe_chain op_le op_le (pv 1) (pv 0) (pv 2))))),?_⟩
  refine ⟨_,rfl,v,rfl,ty,_,rfl,?_⟩
  cases v with
  | int i =>
   refine iteT ?_
   refine ⟨_,rfl,_,rfl,_,_,rfl,rfl,_,rfl,?_⟩
   by_cases h1:lo≤i
   ·rw [decide_eq_true h1]
    refine iteT ⟨_,rfl,_,_,rfl,rfl,?_⟩
    have e:betw (.int i) lo hi=decide (i≤hi):=by simp [betw,h1]
    rw [e] at k
    exact k
   ·rw [decide_eq_false h1]
    refine iteF ?_
    have e:betw (.int i) lo hi=false:=by simp [betw,h1]
    rw [e] at k
    exact k
  | _=>exact iteF k
theorem scLBetw:FnScope ["thing","least","greatest"] ["thing","least","greatest"] (defScope sLBetw):=⟨rfl,rfl,rfl,by decide +kernel,rfl,by decide +kernel,by decide +kernel⟩
theorem ok_lbetw{f:Addr}{fd:FuncData}(F:Fun K "is_list_between" "is_list_between" sLBetw f fd)(T:Txt mg)(D2:Def P w K mg base 2 "is_between" ["thing","least","greatest"] spBetw):FnOk P w K mg base CX0 3 f fd ["thing","least","greatest"] spLBetw:=by
 refine F.ok scLBetw (fun vs H Q E h=>?_) (fun cdv A outer s H vs Q E hr h=>?_)
 ·obtain ⟨a,xs,lo,hi,rfl,_⟩:=h;rfl
 ·obtain ⟨a,xs,lo,hi,rfl,ha,hlen,hth,k⟩:=h
  refine ⟨_,pss_one (ps_ret (pe_and (pe_callB call_isi (by rfl) T.isi boot_isinstance (pa_cons (pv 0) (pa_cons (pe_ty T.list boot_list) pa_nil)))
   (pe_one (pe_callB (call_all rfl) (by rfl) T.all boot_all (pa_cons
    (pe_cmp1 (defScope sLBetw) ["thing","least","greatest"] ["least","greatest"] [1,2] rfl (pi_list (pv 0)) (fun cl C s H fp=>pf_nil) (fun cl C s H fp=>pe_fn D2 hr (by rfl) (pa_cons (pv 0) (pa_cons (pv 1) (pa_cons (pv 2) pa_nil)))) (by decide +kernel)) pa_nil))))),?_⟩
  refine ⟨_,rfl,_,_,_,_,rfl,.lst ha,kit_ll,true,rfl,iteT ?_⟩
  refine ⟨_,rfl,a,rfl,⟨_,SqL.of ha⟩,comp_list (K:=K) (a:=a) (xs:=xs) (fun i ys H2=>ys=((xs.take i).map fun x=>V.bl (betw x lo hi))∧Same H H2) ⟨by simp,Same.refl _⟩ (fun i ys H2 _ p=>SqL.of (p.2 _ _ ha)) ?_ ?_⟩
  ·rintro i x ys H2 hx ⟨rfl,s2⟩
   have hil:i<xs.length:=(List.getElem?_eq_some_iff.mp hx).1
   refine ⟨szl (by rw [List.length_map,List.length_take];omega),?_⟩
   refine ⟨_,rfl,_,rfl,_,rfl,x,lo,hi,rfl,(hth x (List.mem_of_getElem? hx)).keep s2,?_,s2⟩
   rw [List.take_add_one,hx]
   simp
  ·rintro ys H2 ⟨rfl,s2⟩ D hD
   refine ⟨D,xs.map fun x=>betw x lo hi,rfl,SqL.of ?_,?_⟩
   ·rw [upd_same,List.take_length,List.map_map]
    rfl
   ·have e:(xs.map fun x=>betw x lo hi).all id=xs.all fun x=>betw x lo hi:=by rw [List.all_map];rfl
    rw [e]
    exact k _ (same_upd2 s2 (s2.free hD))
theorem scIsFrame:FnScope ["thing"] ["thing"] (defScope sIsFrame):=⟨rfl,rfl,rfl,by decide +kernel,rfl,by decide +kernel,by decide +kernel⟩
theorem ok_isframe{f:Addr}{fd:FuncData}(F:Fun K "is_frame" "is_frame" sIsFrame f fd)(T:Txt mg)(D2:Def P w K mg base 2 "is_between" ["thing","least","greatest"] spBetw)(D3:Def P w K mg base 3 "is_list_between" ["thing","least","greatest"] spLBetw) :
  FnOk P w K mg base CX0 4 f fd ["thing"] spIsFrame:=by
 refine F.ok scIsFrame (fun vs H Q E h=>?_) (fun cdv A outer s H vs Q E hr h=>?_)
 ·obtain ⟨g,a,c,b,ps,ws,rfl,_⟩:=h;rfl
 ·obtain ⟨g,a,c,b,ps,ws,rfl,G,k⟩:=h
  have ok:=G.ok
  have hsum:=ok.sum
  refine ⟨_,pss_cons (ps_if (PW.pt (pw_or (pt_not (pt_val (pe_callB call_isi (by rfl) T.isi boot_isinstance (pa_cons (pv 0) (pa_cons (pe_ty T.tuple boot_tuple) pa_nil))))) (pw_or1 (pt_cmpR op_ne (lenS T.len (by rfl) (pv 0)) pe_int (nomark _))))) (pss_one (ps_ret pe_bl)) pss_nil)
   (pss_cons (ps_if (pt_not (pt_val (pe_fn D2 (hr.mono (by decide)) (by rfl) (pa_cons (ixt (pv 0) pe_int) (pa_cons pe_int (pa_cons pe_int pa_nil)))))) (pss_one (ps_ret pe_bl)) pss_nil)
   (pss_cons (ps_if (PW.pt (pw_or (pt_not (pt_val (pe_fn D3 hr (by rfl) (pa_cons (ixt (pv 0) pe_int) (pa_cons pe_int (pa_cons pe_int pa_nil)))))) (pw_or1 (pt_not (pt_chain op_le op_le pe_int (lenS T.len (by rfl) (ixt (pv 0) pe_int)) pe_int))))) (pss_one (ps_ret pe_bl)) pss_nil)
   (pss_one (ps_ret (pe_and (pe_fn D3 hr (by rfl) (pa_cons (ixt (pv 0) pe_int) (pa_cons (pe_un un_neg pe_int) (pa_cons pe_int pa_nil))))
    (pe_one (pe_cmpR op_eq (lenS T.len (by rfl) (ixt (pv 0) pe_int)) (pe_callB (call_sumA rfl) (by rfl) T.sum boot_sum (pa_cons (ixt (pv 0) pe_int) pa_nil)) (nomark _)))))))),?_⟩
  -- a tuple of three
  refine ⟨_,rfl,_,_,_,_,rfl,.tup G.tp,kit_tt,true,rfl,iteF ?_⟩
  refine ⟨_,rfl,g,_,rfl,.inr (SqT.of G.tp),rfl,_,rfl,iteNS rfl ?_⟩
  -- the base
  refine ⟨_,rfl,_,_,_,_,rfl,rfl,SqT.of G.tp,rfl,⟨.int b,2,16,rfl,.int _,_,rfl,?_⟩⟩
  have e1:betw (.int b) 2 16=true:=by
   have h1:=ok.b2
   have h2:=ok.b16
   simp only [betw,Bool.and_eq_true,decide_eq_true_eq]
   omega
  rw [e1]
  refine iteF ?_
  -- the parts
  refine ⟨_,rfl,_,_,_,_,rfl,rfl,SqT.of G.tp,rfl,⟨a,_,1,6,rfl,G.hp,(by simp [natV];have:=ok.l4;omega),things_nats ps,fun H1 s1=>⟨_,rfl,?_⟩⟩⟩
  have e2:((natV ps).all fun x=>betw x 1 6)=true:=betw_nats (lo:=1) (hi:=6) ok.pr
  rw [e2]
  refine iteF ?_
  refine ⟨_,rfl,_,_,_,_,rfl,rfl,SqT.of (s1 _ _ G.tp),rfl,⟨a,_,rfl,.inl (SqL.of (s1 _ _ G.hp)),_,_,rfl,rfl,_,rfl,?_⟩⟩
  have e3:((natV ps).length:Int)=ps.length:=by simp [natV]
  have l2:=ok.l2
  have l4:=ok.l4
  refine ite2 (fun _=>?_) (fun h=>absurd (decide_eq_true (by omega)) h)
  refine ⟨_,_,rfl,rfl,_,rfl,?_⟩
  refine iteNS (by omega) ?_
  -- the weights
  refine ⟨_,rfl,_,_,_,_,rfl,rfl,SqT.of (s1 _ _ G.tp),rfl,⟨_,rfl,⟨c,_,-9,9,rfl,s1 _ _ G.hw,(by rw [List.length_map,ok.wl];omega),things_ints ws,fun H2 s2=>⟨_,rfl,?_⟩⟩⟩⟩
  have e4:((ws.map V.int).all fun x=>betw x (-9) 9)=true:=betw_ints ok.wr
  rw [e4]
  refine iteT ?_
  have G2:=(G.keep s1).keep s2
  refine ⟨_,rfl,_,_,_,_,rfl,rfl,SqT.of G2.tp,rfl,⟨c,_,rfl,.inl (SqL.of G2.hw),?_⟩⟩
  refine ⟨_,rfl,_,_,_,_,rfl,rfl,SqT.of G2.tp,rfl,⟨a,ps.map fun (p:Nat)=>(p:Int),rfl,SqL.of (by rw [← natV_eq];exact G2.hp),rfl,?_⟩⟩
  ·have e5:decide (V.int ((ws.map V.int).length:Int)=V.int (ps.map fun (p:Nat)=>(p:Int)).sum)=true:=by
    rw [decide_eq_true_eq,Ma.sum_cast,List.length_map,ok.wl]
   rw [e5]
   exact k H2 (s1.trans s2)
theorem scNeedFrame:FnScope ["thing"] ["thing"] (defScope sNeedFrame):=⟨rfl,rfl,rfl,by decide +kernel,rfl,by decide +kernel,by decide +kernel⟩
theorem ok_needframe{f:Addr}{fd:FuncData}(F:Fun K "need_frame" "need_frame" sNeedFrame f fd)(D4:Def P w K mg base 4 "is_frame" ["thing"] spIsFrame):FnOk P w K mg base CX0 5 f fd ["thing"] spNeedFrame:=by
 refine F.ok scNeedFrame (fun vs H Q E h=>?_) (fun cdv A outer s H vs Q E hr h=>?_)
 ·obtain ⟨g,a,c,b,ps,ws,rfl,_⟩:=h;rfl
 ·obtain ⟨g,a,c,b,ps,ws,rfl,G,k⟩:=h
  refine ⟨_,pss_one (ps_if (pt_not (pt_val (pe_fn D4 hr (by rfl) (pa_cons (pv 0) pa_nil)))) pss_never pss_nil),?_⟩
  exact ⟨_,rfl,g,a,c,b,ps,ws,rfl,G,fun H1 s1=>⟨_,rfl,iteF (k H1 s1)⟩⟩
theorem scHowMany:FnScope ["frame","many","place"] ["frame"] (defScope sHowMany):=⟨rfl,rfl,rfl,by decide +kernel,rfl,by decide +kernel,by decide +kernel⟩
theorem ok_howmany{f:Addr}{fd:FuncData}(F:Fun K "how_many" "how_many" sHowMany f fd)(T:Txt mg)(D5:Def P w K mg base 5 "need_frame" ["thing"] spNeedFrame):FnOk P w K mg base CX0 6 f fd ["frame"] spHowMany:=by
 refine F.ok scHowMany (fun vs H Q E h=>?_) (fun cdv A outer s H vs Q E hr h=>?_)
 ·obtain ⟨g,a,c,b,ps,ws,rfl,_⟩:=h;rfl
 ·obtain ⟨g,a,c,b,ps,ws,rfl,G,k⟩:=h
  have ok:=G.ok
  have hsum:=ok.sum
  refine ⟨_,pss_cons (ps_expr (pe_fn D5 hr (by rfl) (pa_cons (pv 0) pa_nil)))
   (pss_cons (ps_set (i:=1) scHowMany.nd rfl (Or.inl rfl) pe_int)
   (pss_cons (ps_for PassesOwn.never rfl (pi_range1 (by rfl) T.range (pa_cons (lenS T.len (by rfl) (ixt (pv 0) pe_int)) pa_nil)) (pg_name (i:=2) scHowMany.nd rfl (Or.inl rfl))
    (pss_one (ps_set (i:=1) scHowMany.nd rfl (Or.inl rfl) (pe_op op_mul (pv 1) (ixt (pv 0) pe_int)))))
   (pss_one (ps_ret (pv 1))))),?_⟩
  refine ⟨_,rfl,g,a,c,b,ps,ws,rfl,G,fun H1 s1=>?_⟩
  have G1:=G.keep s1
  refine ⟨_,rfl,_,_,_,_,rfl,rfl,SqT.of G1.tp,rfl,⟨c,_,rfl,.inl (SqL.of G1.hw),_,rfl,(by rw [List.length_map,ok.wl];omega),(by rw [List.length_map,ok.wl];omega),?_⟩⟩
  have en:((ws.map V.int).length:Int).toNat=ps.sum:=by rw [List.length_map,ok.wl];omega
  rw [en]
  refine for_range (n:=ps.sum) (fun i σ H2=>H2=H1∧∃ v,σ=[some (.ref g),some (.int ((b ^ i:Nat):Int)),v]) ⟨rfl,none,rfl⟩ ?_ ?_
  ·rintro i σ H2 hi ⟨rfl,v,rfl⟩
   refine ⟨_,rfl,_,rfl,_,_,_,_,rfl,rfl,SqT.of G1.tp,rfl,⟨_,_,rfl,rfl,.inr ⟨by have:=ok.b16;omega,by have:=ok.b16;omega⟩,rfl,some (.int (0+(i:Int))),?_⟩⟩
   rw [Nat.pow_succ]
   push_cast
   rfl
  ·rintro σ H2 ⟨rfl,v,rfl⟩
   exact ⟨_,rfl,k _ s1⟩
theorem scNeedNumber:FnScope ["frame","thing"] ["frame","thing"] (defScope sNeedNumber):=⟨rfl,rfl,rfl,by decide +kernel,rfl,by decide +kernel,by decide +kernel⟩
theorem ok_neednumber{f:Addr}{fd:FuncData}(F:Fun K "need_number" "need_number" sNeedNumber f fd)(D2:Def P w K mg base 2 "is_between" ["thing","least","greatest"] spBetw)(D6:Def P w K mg base 6 "how_many" ["frame"] spHowMany) :
  FnOk P w K mg base CX0 7 f fd ["frame","thing"] spNeedNumber:=by
 refine F.ok scNeedNumber (fun vs H Q E h=>?_) (fun cdv A outer s H vs Q E hr h=>?_)
 ·obtain ⟨g,a,c,b,ps,ws,n,rfl,_⟩:=h;rfl
 ·obtain ⟨g,a,c,b,ps,ws,n,rfl,G,hn,k⟩:=h
  refine ⟨_,pss_one (ps_if (pt_not (pt_val (pe_fn D2 (hr.mono (by decide)) (by rfl) (pa_cons (pv 1) (pa_cons pe_int (pa_cons (pe_op op_sub (pe_fn D6 hr (by rfl) (pa_cons (pv 0) pa_nil)) pe_int) pa_nil)))))) pss_never pss_nil),?_⟩
  refine ⟨_,rfl,_,rfl,g,a,c,b,ps,ws,rfl,G,fun H1 s1=>⟨_,_,rfl,rfl,.int n,0,_,rfl,.int _,_,rfl,?_⟩⟩
  have e:betw (.int (n:Int)) 0 (((b ^ ps.sum:Nat):Int) - 1)=true:=by
   simp only [betw,Bool.and_eq_true,decide_eq_true_eq]
   omega
  rw [e]
  exact iteF (k H1 s1)
theorem scFiguresOf:FnScope ["frame","n","figures","rest","place"] ["frame","n"] (defScope sFiguresOf):=⟨rfl,rfl,rfl,by decide +kernel,rfl,by decide +kernel,by decide +kernel⟩
theorem ok_figuresof{f:Addr}{fd:FuncData}(F:Fun K "figures_of" "figures_of" sFiguresOf f fd)(T:Txt mg)(D5:Def P w K mg base 5 "need_frame" ["thing"] spNeedFrame)(D7:Def P w K mg base 7 "need_number" ["frame","thing"] spNeedNumber) :
  FnOk P w K mg base CX0 8 f fd ["frame","n"] spFigures:=by
 refine F.ok scFiguresOf (fun vs H Q E h=>?_) (fun cdv A outer s H vs Q E hr h=>?_)
 ·obtain ⟨g,a,c,b,ps,ws,n,rfl,_⟩:=h;rfl
 ·obtain ⟨g,a,c,b,ps,ws,n,rfl,G,hn,k⟩:=h
  have ok:=G.ok
  have hsum:=ok.sum
  have b2:=ok.b2
  have b16:=ok.b16
  refine ⟨_,pss_cons (ps_expr (pe_fn D5 (hr.mono (by decide)) (by rfl) (pa_cons (pv 0) pa_nil)))
   (pss_cons (ps_expr (pe_fn D7 hr (by rfl) (pa_cons (pv 0) (pa_cons (pv 1) pa_nil))))
   (pss_cons (ps_set (i:=2) scFiguresOf.nd rfl (Or.inl rfl) (pe_lst pa_nil))
   (pss_cons (ps_set (i:=3) scFiguresOf.nd rfl (Or.inl rfl) (pv 1))
   (pss_cons (ps_for PassesOwn.never rfl (pi_range1 (by rfl) T.range (pa_cons (lenS T.len (by rfl) (ixt (pv 0) pe_int)) pa_nil)) (pg_name (i:=4) scFiguresOf.nd rfl (Or.inl rfl))
    (pss_cons (ps_expr (pe_bm PySem.F.plainAttrs_list PySem.F.slot_list_append PySem.F.type_list_append mt_append (pv 2) (pa_cons (pe_op op_mod (pv 3) (ixt (pv 0) pe_int)) pa_nil)))
    (pss_one (ps_set (i:=3) scFiguresOf.nd rfl (Or.inl rfl) (pe_op op_fdiv (pv 3) (ixt (pv 0) pe_int))))))
   (pss_one (ps_ret (pe_lrev rfl T.list T.rev (by rfl) (by rfl) (pv 2)))))))),?_⟩
  refine ⟨_,rfl,g,a,c,b,ps,ws,rfl,G,fun H1 s1=>?_⟩
  have G1:=G.keep s1
  refine ⟨_,rfl,_,rfl,g,a,c,b,ps,ws,n,rfl,G1,hn,fun H2 s2=>?_⟩
  have G2:=G1.keep s2
  refine ⟨sz (by decide),fun l hl=>?_⟩
  have s3:Same H2 (upd H2 l (.lst [])):=same_upd hl
  have G3:=G2.keep s3
  refine ⟨_,rfl,_,rfl,_,_,_,_,rfl,rfl,SqT.of G3.tp,rfl,⟨c,_,rfl,.inl (SqL.of G3.hw),_,rfl,(by rw [List.length_map,ok.wl];omega),(by rw [List.length_map,ok.wl];omega),?_⟩⟩
  have en:((ws.map V.int).length:Int).toNat=ps.sum:=by rw [List.length_map,ok.wl];omega
  rw [en]
  refine for_range (n:=ps.sum) (fun i σ H4=>∃ v,σ=[some (.ref g),some (.int n),some (.ref l),some (.int ((n / b ^ i:Nat):Int)),v]∧Same H2 H4∧H4 l=some (.lst (natV (Ma.ups b n i)))) ⟨none,(by rw [Nat.pow_zero,Nat.div_one];rfl),s3,upd_same⟩ ?_ ?_
  ·rintro i σ H4 hi ⟨v,rfl,s4,h4⟩
   have G4:=G2.keep s4
   refine ⟨_,rfl,.inl ⟨rfl,_,SqL.of h4⟩,_,rfl,_,rfl,_,_,_,_,rfl,rfl,SqT.of G4.tp,rfl,⟨_,_,rfl,rfl,(by show (0:Int)<b;omega),l,_,_,rfl,rfl,h4,szl (by simp [natV,Ma.ups_len];omega),?_⟩⟩
   have s5:Same H2 (upd H4 l (.lst (natV (Ma.ups b n i)++[V.int (((n / b ^ i:Nat):Int) % (b:Int))]))):=same_upd2 s4 hl
   refine ⟨_,rfl,_,rfl,_,_,_,_,rfl,rfl,SqT.of (G2.keep s5).tp,rfl,⟨_,_,rfl,rfl,⟨by show (0:Int)<b;omega,by show (b:Int)<1073741824;omega⟩,some (.int (0+(i:Int))),?_,s5,?_⟩⟩
   ·rw [← Ma.div_up]
    push_cast
    rfl
   ·rw [upd_same,Ma.ups_succ]
    simp [natV]
  ·rintro σ H4 ⟨v,rfl,s4,h4⟩
   refine ⟨_,rfl,l,_,rfl,SqL.of h4,fun r hr'=>?_⟩
   refine k r _ ?_ ((s1.trans s2).trans (same_upd2 s4 (s4.free hr'))) ?_
   ·exact (s1.trans (s2.trans s4)).free hr'
   ·rw [upd_same,← Ma.ups_rev]
    simp [natV]
end
end Hv
namespace Hv
open PySem L2
noncomputable abbrev RowsAt(H:Hp)(qs:List Addr)(rows:List (List Int)):Prop:=Paired (fun q row=>H q=some (.lst (row.map V.int))) qs rows
theorem RowsAt.keepOn{H H':Hp}{qs:List Addr}{rows:List (List Int)}(s:∀ b∈qs,∀ row:List Int,H b=some (.lst (row.map V.int))→H' b=some (.lst (row.map V.int)))(h:RowsAt H qs rows):RowsAt H' qs rows:=by
 induction h with
 | nil=>exact .nil
 | cons h _ ih=>exact .cons (s _ (by simp) _ h) (ih fun b hb=>s b (List.mem_cons_of_mem _ hb))
noncomputable def spCut:Sp:=fun vs H Q _=>∃ f a c b ps ws,∃ (r:Addr) (xs:List Int),vs=[.ref f,.ref r]∧FrAt H f a c b ps ws∧H r=some (.lst (xs.map V.int))∧
 ∀ p qs H',Same H H'→H' p=some (.lst (qs.map V.ref))→RowsAt H' qs (Ma.cuts ps xs)→Q (.ref p) H'
theorem cut_mid{xs:List V}{i k:Nat}:cutV xs (some (i:Int)) (some ((i:Int)+(k:Int)))=(xs.drop i).take k:=by
 have e:(i:Int)+(k:Int)=((i+k:Nat):Int):=by omega
 unfold cutV
 rw [e,HT.sIx_nat,HT.sIx_nat]
 rcases Nat.le_total i xs.length with h | h
 ·rw [Nat.min_eq_left h]
  rcases Nat.le_total (i+k) xs.length with h2 | h2
  ·rw [Nat.min_eq_left h2,Nat.add_sub_cancel_left]
  ·rw [Nat.min_eq_right h2,List.take_of_length_le (by rw [List.length_drop];omega),List.take_of_length_le (by rw [List.length_drop];omega)]
 ·rw [Nat.min_eq_right h,List.drop_of_length_le (Nat.le_refl _),List.drop_of_length_le h]
  simp
section
variable{P:Program}{w:World}{K:PySem.W.Frag}{mg:Str→Option Value}{base:Heap}
theorem scCut:FnScope ["frame","row","pieces","start","length"] ["frame","row"] (defScope sCut):=⟨rfl,rfl,rfl,by decide +kernel,rfl,by decide +kernel,by decide +kernel⟩
theorem ok_cut{f:Addr}{fd:FuncData}(F:Fun K "cut_by_parts" "cut_by_parts" sCut f fd):FnOk P w K mg base CX0 1 f fd ["frame","row"] spCut:=by
 refine F.ok scCut (fun vs H Q E h=>?_) (fun cdv A outer s H vs Q E hr h=>?_)
 ·obtain ⟨g,a,c,b,ps,ws,r,xs,rfl,_⟩:=h;rfl
 ·obtain ⟨g,a,c,b,ps,ws,r,xs,rfl,G,hrow,k⟩:=h
  have nd:=scCut.nd
  have l4:=G.ok.l4
  refine ⟨_,pss_cons (ps_set (i:=2) nd rfl (Or.inl rfl) (pe_lst pa_nil))
   (pss_cons (ps_set (i:=3) nd rfl (Or.inl rfl) pe_int)
   (pss_cons (ps_for PassesOwn.never rfl (pi_list (ixt (pv 0) pe_int)) (pg_name (i:=4) nd rfl (Or.inl rfl))
    (pss_cons (ps_expr (pe_bm PySem.F.plainAttrs_list PySem.F.slot_list_append PySem.F.type_list_append mt_append (pv 2) (pa_cons (pe_slice sl_list (pv 1) (po_some (pv 3)) (po_some (pe_op op_add (pv 3) (pv 4)))) pa_nil)))
    (pss_one (ps_set (i:=3) nd rfl (Or.inl rfl) (pe_op op_add (pv 3) (pv 4))))))
   (pss_one (ps_ret (pv 2))))),?_⟩
  refine ⟨sz (by decide),fun p hp=>?_⟩
  have s1:Same H (upd H p (.lst [])):=same_upd hp
  have G1:=G.keep s1
  refine ⟨_,rfl,_,_,_,_,rfl,rfl,SqT.of G1.tp,rfl,a,rfl,⟨_,SqL.of G1.hp⟩,for_list (K:=K) (a:=a) (xs:=natV ps) (fun i σ H2=>∃ (qs:List Addr) (v4:Option V),σ=[some (.ref g),some (.ref r),some (.ref p),some (.int (((ps.take i).sum:Nat):Int)),v4]∧
   Same H H2∧H2 p=some (.lst (qs.map V.ref))∧qs.length=i∧RowsAt H2 qs ((Ma.cuts ps xs).take i)) ⟨[],none,rfl,s1,upd_same,rfl,.nil⟩ (fun i σ H2 _ h=>by obtain ⟨_,_,_,s2,_⟩:=h;exact SqL.of (s2 _ _ G.hp)) ?_ ?_⟩
  ·rintro i x σ H2 hx ⟨qs,v4,rfl,s2,hp2,hl2,rows⟩
   have hi:i<ps.length:=by
    have:=(List.getElem?_eq_some_iff.mp hx).1
    simpa [natV] using this
   have e:ps[i]?=some ps[i]:=by simp [hi]
   have ex:x=V.int ((ps[i]:Nat):Int):=by
    have:(natV ps)[i]?=some (V.int ((ps[i]:Nat):Int)):=by simp [natV,hi]
    rw [this] at hx
    exact (Option.some.inj hx).symm
   subst ex
   have pr:p≠r:=Ne.symm (ne_of_none hrow hp)
   refine ⟨_,rfl,.inl ⟨rfl,_,SqL.of hp2⟩,_,rfl,_,rfl,_,rfl,_,rfl,_,rfl,_,_,rfl,rfl,_,rfl,r,_,rfl,SqL.of (s2 _ _ hrow),fun q hq=>?_⟩
   have pq:p≠q:=ne_of_none hp2 hq
   refine ⟨p,_,_,rfl,rfl,(by rw [upd_ne pq];exact hp2),szl (by rw [List.length_map];omega),?_⟩
   refine ⟨_,rfl,_,rfl,_,_,rfl,rfl,qs++[q],some (.int ((ps[i]:Nat):Int)),?_,same_upd2 (same_upd2 s2 (s2.free hq)) hp,?_,by simp [hl2],?_⟩
   ·rw [List.take_add_one,e,List.sum_append]
    show [some (V.ref g),some (.ref r),some (.ref p),some (.int (((ps.take i).sum:Nat)+((ps[i]:Nat):Int))),_]=_
    simp
   ·rw [upd_same];simp
   ·rw [List.take_add_one,Ma.cuts_get ps xs i ps[i] e]
    refine Paired.snoc (RowsAt.keepOn (H:=H2) (fun bb hb row z=>?_) rows) ?_
    ·have bp:bb≠p:=ne_of z hp2 (by
      intro e
      have e':row.map V.int=qs.map V.ref:=by injection e
      have m1:V.ref bb∈row.map V.int:=by rw [e'];exact List.mem_map.mpr ⟨bb,hb,rfl⟩
      obtain ⟨_,_,m2⟩:=List.mem_map.mp m1
      cases m2)
     rw [upd_ne bp,upd_ne (ne_of_none z hq)]
     exact z
    ·rw [upd_ne pq.symm,upd_same,cut_mid,← List.map_drop,← List.map_take]
  ·rintro σ H2 ⟨qs,v4,rfl,s2,hp2,hl2,rows⟩
   refine ⟨_,rfl,k p qs H2 s2 hp2 ?_⟩
   have e:(natV ps).length=(Ma.cuts ps xs).length:=by rw [Ma.cuts_len];simp [natV]
   rw [e,List.take_length] at rows
   exact rows
end
end Hv
namespace Hv
open PySem L2
structure St7(H:Hp)(s q:Addr)(ds:List Int):Prop where
 hs:∃ c:Int,H s=some (.lst [.ref q,.int c])
 hq:H q=some (.lst (ds.map V.int))
 ne:0<ds.length
theorem St7.keep{H H':Hp}{s q:Addr}{ds:List Int}(S:St7 H s q ds)(t:Same H H'):St7 H' s q ds:=⟨let ⟨c,e⟩:=S.hs;⟨c,t _ _ e⟩,t _ _ S.hq,S.ne⟩
theorem St7.off{H:Hp}{s q l:Addr}{ds:List Int}(S:St7 H s q ds)(h:H l=none):l∉[s]:=fun z=>by
 obtain ⟨c,e⟩:=S.hs
 have z':l=s:=by simpa using z
 rw [z',e] at h;cases h
theorem St7.offq{H:Hp}{s q l:Addr}{ds:List Int}(S:St7 H s q ds)(h:H l=none):q≠l:=ne_of_none S.hq h
theorem St7.upd{H:Hp}{s q l:Addr}{o:HO}{ds:List Int}(S:St7 H s q ds)(h:l∉[s])(hq:q≠l):St7 (L2.upd H l o) s q ds :=
 ⟨let ⟨c,e⟩:=S.hs;⟨c,by rw [upd_ne (show s≠l from fun z=>h (by simp [z]))];exact e⟩,by rw [upd_ne hq];exact S.hq,S.ne⟩
noncomputable def spTake7:Sp:=fun vs H Q _=>∃ (s q:Addr) (ds:List Int) (m:Int),vs=[.ref s,.int m]∧St7 H s q ds∧0<m∧∀ (r:Int) (H':Hp),0≤r→r<m→St7 H' s q ds→Kp [s] H H'→Q (.int r) H'
theorem at_ints{ns:List Int}{i:Int}{Pr:Int→Prop}(h0:0≤i)(h1:i<ns.length)(h:∀ n∈ns,Pr n):∃ n,atI (ns.map V.int) i=some (.int n)∧Pr n:=by
 obtain ⟨v,e,n,rfl,hn⟩:=at_all (xs:=ns.map V.int) (Pr:=fun v=>∃ n,v=.int n∧Pr n) h0 (by rw [List.length_map];exact h1) (fun x hx=>by
  obtain ⟨n,hn,rfl⟩:=List.mem_map.mp hx
  exact ⟨n,rfl,h n hn⟩)
 exact ⟨n,e,hn⟩
noncomputable def spFrame7:Sp:=fun vs H Q _=>∃ (s q:Addr) (ds:List Int) (L:Int),vs=[.ref s,.int L]∧St7 H s q ds∧1≤L∧L≤6∧
 ∀ f a c b ps ws H',St7 H' s q ds→Kp [s] H H'→FrAt H' f a c b ps ws→H f=none→H a=none→H c=none→Q (.ref f) H'
noncomputable def spCopy7:Sp:=fun vs H Q _=>∃ f a c b ps ws,vs=[.ref f]∧FrAt H f a c b ps ws∧∀ f' a' c' H',Same H H'→FrAt H' f' a' c' b ps ws→H f'=none→H a'=none→H c'=none→Q (.ref f') H'
section
variable{P:Program}{w:World}{K:PySem.W.Frag}{mg:Str→Option Value}{base:Heap}
theorem scTake:FnScope ["store","many"] ["store","many"] (defScope sTake):=⟨rfl,rfl,rfl,by decide +kernel,rfl,by decide +kernel,by decide +kernel⟩
theorem ok_take{f:Addr}{fd:FuncData}(F:Fun K "_law_take" "_law_take" sTake f fd)(T:Txt mg):FnOk P w K mg base CX0 1 f fd ["store","many"] spTake7:=by
 refine F.ok scTake (fun vs H Q E h=>?_) (fun cdv A outer s H vs Q E hr h=>?_)
 ·obtain ⟨a,q,ds,m,rfl,_⟩:=h;rfl
 ·obtain ⟨a,q,ds,m,rfl,S,hm,k⟩:=h
  obtain ⟨c,hs⟩:=S.hs
  refine ⟨_,pss_cons (ps_asg (pe_op op_add (ixl (pv 0) pe_int) pe_int) (pg_sub (pv 0) pe_int set_list))
   (pss_one (ps_ret (pe_op op_mod (ixl (ixl (pv 0) pe_int) (pe_op op_mod (pe_op op_sub (ixl (pv 0) pe_int) pe_int) (lenS T.len (by rfl) (ixl (pv 0) pe_int)))) (pv 1)))),?_⟩
  refine ⟨_,rfl,_,_,_,_,rfl,rfl,SqL.of hs,rfl,_,_,rfl,rfl,_,rfl,a,_,_,_,rfl,rfl,hs,rfl,?_⟩
  have u1:(upd H a (.lst [.ref q,.int (c+1)])) a=some (.lst [.ref q,.int (c+1)]):=upd_same
  have nqa:q≠a:=ne_of S.hq hs (by
   intro z
   have z':ds.map V.int=[.ref q,.int c]:=by injection z
   cases ds with
   | nil=>cases z'
   | cons d r=>cases z')
  have k1:Kp [a] H (upd H a (.lst [.ref q,.int (c+1)])):=kp_upd Kp.refl (.inl (by simp))
  have q1:(upd H a (.lst [.ref q,.int (c+1)])) q=some (.lst (ds.map V.int)):=by rw [upd_ne nqa];exact S.hq
  have ew:[V.ref q,V.int c].set (Int.toNat 1) (V.int (c+1))=[.ref q,.int (c+1)]:=rfl
  dsimp only
  rw [ew]
  generalize upd H a (.lst [.ref q,.int (c+1)])=H1 at u1 k1 q1⊢
  have hn:=S.ne
  have el:(((ds.map V.int).length:Nat):Int)=(ds.length:Int):=by simp
  refine ⟨_,rfl,_,_,_,_,rfl,rfl,SqL.of u1,rfl,_,rfl,_,_,_,_,rfl,rfl,SqL.of u1,rfl,_,_,rfl,rfl,_,rfl,_,_,_,_,rfl,rfl,SqL.of u1,rfl,q,_,rfl,.inl (SqL.of q1),_,_,rfl,rfl,(by show (0:Int)<_;omega),?_⟩
  obtain ⟨n,en,_⟩:=at_ints (ns:=ds) (i:=(c+1 - 1) % (((ds.map V.int).length:Nat):Int)) (Pr:=fun _=>True) (Int.emod_nonneg _ (by omega)) (by rw [el];exact Int.emod_lt_of_pos _ (by omega)) (fun _ _=>trivial)
  refine r_ixl q1 en ⟨_,rfl,_,_,rfl,rfl,hm,?_⟩
  exact k _ H1 (Int.emod_nonneg _ (by omega)) (Int.emod_lt_of_pos _ hm) ⟨⟨_,u1⟩,q1,S.ne⟩ k1
theorem scCopy:FnScope ["frame"] ["frame"] (defScope sCopy):=⟨rfl,rfl,rfl,by decide +kernel,rfl,by decide +kernel,by decide +kernel⟩
theorem ok_copy{f:Addr}{fd:FuncData}(F:Fun K "_law_copy" "_law_copy" sCopy f fd)(T:Txt mg):FnOk P w K mg base CX0 1 f fd ["frame"] spCopy7:=by
 refine F.ok scCopy (fun vs H Q E h=>?_) (fun cdv A outer s H vs Q E hr h=>?_)
 ·obtain ⟨g,a,c,b,ps,ws,rfl,_⟩:=h;rfl
 ·obtain ⟨g,a,c,b,ps,ws,rfl,G,k⟩:=h
  refine ⟨_,pss_one (ps_ret (pe_tup (pa_cons (ixt (pv 0) pe_int) (pa_cons (pe_callTy call_list_of (by rfl) T.list boot_list (pa_cons (ixt (pv 0) pe_int) pa_nil)) (pa_cons (pe_callTy call_list_of (by rfl) T.list boot_list (pa_cons (ixt (pv 0) pe_int) pa_nil)) pa_nil))))),?_⟩
  refine ⟨_,rfl,_,_,_,_,rfl,rfl,SqT.of G.tp,rfl,⟨_,rfl,_,_,_,_,rfl,rfl,SqT.of G.tp,rfl,⟨a,_,rfl,.inl (SqL.of G.hp),fun a' ha'=>?_⟩⟩⟩
  have s1:Same H (upd H a' (.lst (natV ps))):=same_upd ha'
  refine ⟨_,rfl,_,_,_,_,rfl,rfl,SqT.of (s1 _ _ G.tp),rfl,⟨c,_,rfl,.inl (SqL.of (s1 _ _ G.hw)),fun c' hc'=>⟨sz (by simp),fun f' hf'=>?_⟩⟩⟩
  have s2:Same (upd H a' (.lst (natV ps))) (upd (upd H a' (.lst (natV ps))) c' (.lst (ws.map V.int))):=same_upd hc'
  have s3:=same_upd (o:=.tup [.int b,.ref a',.ref c']) hf'
  refine k f' a' c' _ (s1.trans (s2.trans s3)) ⟨upd_same,s3 _ _ (s2 _ _ upd_same),s3 _ _ upd_same,G.ok⟩ (s1.free (s2.free hf')) ha' (s1.free hc')
theorem scFrame:FnScope ["store","most","x","base","many","size","parts","way","weights","k","y","some"] ["store","most"] (defScope sFrame):=⟨rfl,rfl,rfl,by decide +kernel,rfl,by decide +kernel,by decide +kernel⟩
theorem ok_frame{f:Addr}{fd:FuncData}(F:Fun K "_law_frame" "_law_frame" sFrame f fd)(T:Txt mg)(D1:Def P w K mg base 1 "_law_take" ["store","many"] spTake7):FnOk P w K mg base CX0 2 f fd ["store","most"] spFrame7:=by
 refine F.ok scFrame (fun vs H Q E h=>?_) (fun cdv A outer s H vs Q E hr h=>?_)
 ·obtain ⟨a,q,ds,L,rfl,_⟩:=h;rfl
 ·obtain ⟨d,q,ds,L,rfl,S,hL1,hL6,k⟩:=h
  have nd:=scFrame.nd
  refine ⟨_,pss_cons (ps_set (i:=2) nd rfl (Or.inr rfl) (pe_fn D1 hr (by rfl) (pa_cons (pv 0) (pa_cons pe_int pa_nil))))
   (pss_cons (ps_set (i:=3) nd rfl (Or.inl rfl) (ixl (pe_lst (pa_cons pe_int (pa_cons pe_int (pa_cons pe_int (pa_cons pe_int (pa_cons (pe_op op_add pe_int (pe_op op_mod (pv 2) pe_int)) pa_nil)))))) (pe_fn D1 hr (by rfl) (pa_cons (pv 0) (pa_cons pe_int pa_nil)))))
   (pss_cons (ps_set (i:=4) nd rfl (Or.inl rfl) (pe_op op_add pe_int (pe_op op_mod (pe_op op_fdiv (pv 2) pe_int) pe_int)))
   (pss_cons (ps_set (i:=5) nd rfl (Or.inr rfl) (pe_op op_add pe_int (pe_fn D1 hr (by rfl) (pa_cons (pv 0) (pa_cons (pv 1) pa_nil)))))
   (pss_cons (ps_cmp1 (defScope sFrame) ["store","most","x","base","many","size","parts","way","weights","k","y","some"] ["size","store","most","x"] [5,0,1,2] (i:=6) nd rfl (Or.inl rfl) rfl
    (pi_range1 (by rfl) T.range (pa_cons (pv 4) pa_nil))
    (fun cl C s H fp=>pf_nil) (fun cl C s H fp=>ixlK K rfl (pe_lst (pa_cons (pv 1) (pa_cons (pe_op op_add pe_int (pe_fn D1 hr (by rfl) (pa_cons (pv 2) (pa_cons (pv 3) pa_nil)))) pa_nil))) (pe_op op_mod (pe_op op_fdiv (pv 4) pe_int) pe_int)) (by decide +kernel) (by rfl))
   (pss_cons (ps_set (i:=7) nd rfl (Or.inl rfl) (pe_fn D1 hr (by rfl) (pa_cons (pv 0) (pa_cons pe_int pa_nil))))
   (pss_cons (ps_set (i:=8) nd rfl (Or.inl rfl) (pe_lst pa_nil))
   (pss_cons (ps_for PassesOwn.never rfl (pi_range1 (by rfl) T.range (pa_cons (pe_callB (call_sumA rfl) (by rfl) T.sum boot_sum (pa_cons (pv 6) pa_nil)) pa_nil)) (pg_name (i:=9) nd rfl (Or.inl rfl))
    (pss_cons (ps_set (i:=10) nd rfl (Or.inl rfl) (pe_fn D1 hr (by rfl) (pa_cons (pv 0) (pa_cons pe_int pa_nil))))
    (pss_cons (ps_set (i:=11) nd rfl (Or.inl rfl) (pe_lst (pa_cons pe_int (pa_cons (pe_op op_sub (pe_op op_mod (pv 10) pe_int) pe_int) (pa_cons (pe_op op_sub (pe_op op_mod (pv 10) pe_int) pe_int) (pa_cons (pe_op op_add (pe_op op_mod (pv 9) pe_int) pe_int)
      (pa_cons (ixl (pe_lst (pa_cons pe_int (pa_cons (pe_un un_neg pe_int) pa_nil))) (pe_op op_mod (pv 10) pe_int)) (pa_cons (pe_op op_sub pe_int (pe_op op_mul (pe_op op_mod (pv 9) pe_int) pe_int)) (pa_cons (pe_op op_mod (pv 10) pe_int) pa_nil)))))))))
    (pss_one (ps_expr (pe_bm PySem.F.plainAttrs_list PySem.F.slot_list_append PySem.F.type_list_append mt_append (pv 8) (pa_cons (ixl (pv 11) (pv 7)) pa_nil)))))))
   (pss_one (ps_ret (pe_tup (pa_cons (pv 3) (pa_cons (pv 6) (pa_cons (pv 8) pa_nil))))))))))))),?_⟩
  -- x
  refine ⟨_,rfl,d,q,ds,10007,rfl,S,by decide,fun x H1 x0 x1 S1 k1=>?_⟩
  -- base
  refine ⟨_,rfl,_,_,rfl,rfl,(by show (0:Int)<15;decide),_,_,rfl,rfl,sz (by simp),fun l1 hl1=>⟨_,rfl,d,q,ds,5,rfl,S1.keep (same_upd hl1),by decide,fun r2 H2 a2 b2 S2 k2=>?_⟩⟩
  have xm:0≤x % 15∧x % 15<15:=⟨Int.emod_nonneg _ (by decide),Int.emod_lt_of_pos _ (by decide)⟩
  obtain ⟨bi,eb,hb⟩:=at_ints (ns:=[2,3,10,16,2+x % 15]) (Pr:=fun n=>2≤n∧n≤16) a2 b2 (by simp;omega)
  obtain ⟨b,rfl⟩:∃ b:Nat,bi=b:=⟨bi.toNat,by omega⟩
  refine r_ixl (k2 l1 _ upd_same (S1.off hl1)) eb ?_
  have K2:Kp [d] H H2:=k1.trans ((Kp.of (same_upd hl1)).trans k2)
  -- many, size
  refine ⟨_,rfl,_,_,rfl,rfl,⟨by decide,by decide⟩,_,_,rfl,rfl,(by show (0:Int)<3;decide),_,_,rfl,rfl,?_⟩
  have mm:0≤x / 15 % 3∧x / 15 % 3<3:=⟨Int.emod_nonneg _ (by decide),Int.emod_lt_of_pos _ (by decide)⟩
  refine ⟨_,rfl,_,rfl,d,q,ds,L,rfl,S2,by omega,fun sz0 H3 a3 b3 S3 k3=>⟨_,_,rfl,rfl,?_⟩⟩
  have K3:Kp [d] H H3:=K2.trans k3
  -- parts
  refine ⟨_,rfl,_,rfl,by omega,by omega,comp_range (lo:=0) (n:=(2+x / 15 % 3).toNat) (fun i ys H6=>∃ ps:List Nat,ys=natV ps∧ps.length=i∧(∀ x∈ps,1≤x∧x≤6)∧St7 H6 d q ds∧Kp [d] H H6)
   ⟨[],rfl,rfl,fun x hx=>by simp at hx,S3,K3⟩ ?_ ?_⟩
  ·rintro i ys H6 hi ⟨ps,rfl,hl,hp,S6,K6⟩
   refine ⟨szl (by simp [natV];omega),_,rfl,_,rfl,_,rfl,d,q,ds,L,rfl,S6,by omega,fun r H7 a7 b7 S7 k7=>⟨_,_,rfl,rfl,sz (by simp),fun m hm=>?_⟩⟩
   refine ⟨_,rfl,_,_,rfl,rfl,⟨by decide,by decide⟩,_,_,rfl,rfl,(by show (0:Int)<2;decide),?_⟩
   obtain ⟨z,ez,hz⟩:=at_ints (ns:=[1+sz0,1+r]) (i:=x / 45 % 2) (Pr:=fun n=>1≤n∧n≤6) (Int.emod_nonneg _ (by decide)) (Int.emod_lt_of_pos _ (by decide)) (by simp;omega)
   refine r_ixl upd_same ez ⟨ps++[z.toNat],?_,by simp [hl],fun y hy=>?_,S7.keep (same_upd hm),(K6.trans k7).same (same_upd hm)⟩
   ·simp [natV]
    omega
   ·rcases List.mem_append.mp hy with hy | hy
    ·exact hp y hy
    ·have:y=z.toNat:=by simpa using hy
     omega
  rintro ys H6 ⟨ps,rfl,hl,hp,S6,K6⟩ a ha
  have hna:a∉[d]:=S6.off ha
  have hsum:=Ma.sum_le6 ps hp
  -- way, weights
  refine ⟨_,rfl,d,q,ds,7,rfl,S6.keep (same_upd ha),by decide,fun wv H9 w0 w1 S9 k9=>⟨sz (by decide),fun l hl9=>?_⟩⟩
  have h9:H9 a=some (.lst (natV ps)):=k9 a _ upd_same hna
  have K9:Kp [d] H H9:=K6.trans ((Kp.of (same_upd ha)).trans k9)
  have s9:Same H9 (upd H9 l (.lst [])):=same_upd hl9
  have nl:l∉[d]:=S9.off hl9
  have al:a≠l:=ne_of_none h9 hl9
  have ql:q≠l:=S9.offq hl9
  refine ⟨_,rfl,a,ps.map fun (p:Nat)=>(p:Int),rfl,SqL.of (by rw [← natV_eq];exact s9 _ _ h9),_,rfl,?_⟩
  rw [Ma.sum_cast]
  refine ⟨by omega,by omega,?_⟩
  have en':(((ps.sum:Nat):Int)).toNat=ps.sum:=by omega
  rw [en']
  refine for_range (n:=ps.sum) (fun i σ H6=>∃ (ws:List Int) (v9 v10 v11:Option V),σ=[some (.ref d),some (.int L),some (.int x),some (.int b),some (.int (2+x / 15 % 3)),some (.int (1+sz0)),some (.ref a),some (.int wv),some (.ref l),v9,v10,v11]∧St7 H6 d q ds∧Kp [d] H H6∧H6 a=some (.lst (natV ps))∧
   H6 l=some (.lst (ws.map V.int))∧ws.length=i∧∀ x∈ws,-9≤x∧x≤9) ⟨[],none,none,none,rfl,S9.keep s9,K9.same s9,s9 _ _ h9,upd_same,rfl,fun x hx=>by simp at hx⟩ ?_ ?_
  ·rintro i σ H10 hi ⟨ws,v9,v10,v11,rfl,S10,K10,h10,hl10,hw10,hr10⟩
   refine ⟨_,rfl,d,q,ds,10007,rfl,S10,by decide,fun y G1 y0 y1 F1 j1=>?_⟩
   have m19:0≤y % 19∧y % 19<19:=⟨Int.emod_nonneg _ (by decide),Int.emod_lt_of_pos _ (by decide)⟩
   have m3:0≤y % 3∧y % 3<3:=⟨Int.emod_nonneg _ (by decide),Int.emod_lt_of_pos _ (by decide)⟩
   have m2:0≤y % 2∧y % 2<2:=⟨Int.emod_nonneg _ (by decide),Int.emod_lt_of_pos _ (by decide)⟩
   have m4:0≤y % 4∧y % 4<4:=⟨Int.emod_nonneg _ (by decide),Int.emod_lt_of_pos _ (by decide)⟩
   have i9:0≤(0+(i:Int)) % 9∧(0+(i:Int)) % 9<9:=⟨Int.emod_nonneg _ (by decide),Int.emod_lt_of_pos _ (by decide)⟩
   have i2:0≤(0+(i:Int)) % 2∧(0+(i:Int)) % 2<2:=⟨Int.emod_nonneg _ (by decide),Int.emod_lt_of_pos _ (by decide)⟩
   refine ⟨_,rfl,_,_,rfl,rfl,(by show (0:Int)<19;decide),_,_,rfl,rfl,?_⟩
   refine ⟨_,rfl,_,_,rfl,rfl,(by show (0:Int)<3;decide),_,_,rfl,rfl,?_⟩
   refine ⟨_,rfl,_,_,rfl,rfl,(by show (0:Int)<9;decide),_,_,rfl,rfl,?_⟩
   refine ⟨_,rfl,sz (by simp),fun m5 hm5=>⟨_,rfl,_,_,rfl,rfl,(by show (0:Int)<2;decide),?_⟩⟩
   obtain ⟨z,ez,hz⟩:=at_ints (ns:=[9,-9]) (i:=y % 2) (Pr:=fun n => -9≤n∧n≤9) m2.1 m2.2 (by simp)
   refine r_ixl upd_same ez ?_
   have sm5:=same_upd (o:=.lst [.int 9,.int (-9)]) hm5
   generalize upd G1 m5 (.lst [.int 9,.int (-9)])=G2 at sm5⊢
   have F2:=F1.keep sm5
   refine ⟨_,rfl,_,_,rfl,rfl,(by show (0:Int)<2;decide),_,_,rfl,rfl,.inr ⟨by decide,by decide⟩,_,_,rfl,rfl,?_⟩
   refine ⟨_,rfl,_,_,rfl,rfl,(by show (0:Int)<4;decide),sz (by simp),fun m hm=>?_⟩
   have J1:Kp [d] H10 G2:=j1.same sm5
   have sm:=same_upd (o:=.lst [.int 1,.int (y % 19 - 9),.int (y % 3 - 1),.int ((0+(i:Int)) % 9+1),.int z,.int (1 - (0+(i:Int)) % 2*2),.int (y % 4)]) hm
   have um:(upd G2 m (.lst [.int 1,.int (y % 19 - 9),.int (y % 3 - 1),.int ((0+(i:Int)) % 9+1),.int z,.int (1 - (0+(i:Int)) % 2*2),.int (y % 4)])) m=some (.lst ([1,y % 19 - 9,y % 3 - 1,(0+(i:Int)) % 9+1,z,1 - (0+(i:Int)) % 2*2,y % 4].map V.int)):=upd_same
   generalize upd G2 m (.lst [.int 1,.int (y % 19 - 9),.int (y % 3 - 1),.int ((0+(i:Int)) % 9+1),.int z,.int (1 - (0+(i:Int)) % 2*2),.int (y % 4)])=G3 at sm um⊢
   have F3:=F2.keep sm
   have la:G3 a=some (.lst (natV ps)):=sm _ _ (J1 a _ h10 hna)
   have ll:G3 l=some (.lst (ws.map V.int)):=sm _ _ (J1 l _ hl10 nl)
   have K3':Kp [d] H G3:=(K10.trans J1).same sm
   obtain ⟨v,ev,hv⟩:=at_ints (ns:=[1,y % 19 - 9,y % 3 - 1,(0+(i:Int)) % 9+1,z,1 - (0+(i:Int)) % 2*2,y % 4]) (i:=wv) (Pr:=fun n => -9≤n∧n≤9) w0 w1 (by simp;omega)
   refine ⟨_,rfl,.inl ⟨rfl,_,SqL.of ll⟩,_,rfl,_,rfl,_,_,_,_,rfl,rfl,SqL.of um,ev,⟨l,_,_,rfl,rfl,ll,szl (by rw [List.length_map];omega),ws++[v],_,_,_,rfl,F3.upd nl ql,kp_upd K3' (.inr (K9.free hl9 nl)),?_,?_,by simp [hw10],fun y hy=>?_⟩⟩
   ·rw [upd_ne al];exact la
   ·rw [upd_same];simp
   ·rcases List.mem_append.mp hy with hy | hy
    ·exact hr10 y hy
    ·have:y=v:=by simpa using hy
     rw [this];exact hv
  ·rintro σ H10 ⟨ws,v9,v10,v11,rfl,S10,K10,h10,hl10,hw10,hr10⟩
   refine ⟨_,rfl,_,rfl,_,rfl,sz (by simp),fun f' hf'=>?_⟩
   have sf:=same_upd (o:=.tup [.int b,.ref a,.ref l]) hf'
   exact k f' a l b ps ws _ (S10.keep sf) (K10.same sf) ⟨upd_same,sf _ _ h10,sf _ _ hl10,⟨by omega,by omega,by omega,by omega,hp,hw10,hr10⟩⟩ (K10.free hf' (S10.off hf')) (K6.free ha hna) (K9.free hl9 nl)
end
end Hv
namespace Hv
open PySem L2
noncomputable def spDraws(K:PySem.W.Frag):Sp:=fun vs H Q _=>∃ (a:Addr) (ns:List Int),vs=[.ref a,.int 300]∧SqL K H a (ns.map V.int)∧ns.length≤63∧
 ∀ (l:Addr) (H':Hp) (ds:List Int),H l=none→Same H H'→H' l=some (.lst (ds.map V.int))→0<ds.length→Q (.ref l) H'
theorem mem_cut{xs:List V}{lo hi:Option Int}{x:V}(h:x∈cutV xs lo hi):x∈xs:=List.mem_of_mem_drop (List.mem_of_mem_take h)
theorem len_cut{xs:List V}{lo hi:Option Int}:(cutV xs lo hi).length≤xs.length:=by
 unfold cutV
 rw [List.length_take,List.length_drop]
 omega
theorem emod_in(a:Int){m:Int}(h:0<m):0≤a % m∧a % m<m:=⟨Int.emod_nonneg _ (by omega),Int.emod_lt_of_pos _ h⟩
section
variable{P:Program}{w:World}{K:PySem.W.Frag}{mg:Str→Option Value}{base:Heap}
theorem scDraws:FnScope ["script","many","drawn","base","k","cell","number","one"] ["script","many"] (defScope sDraws):=⟨rfl,rfl,rfl,by decide +kernel,rfl,by decide +kernel,by decide +kernel⟩
theorem ok_draws{f:Addr}{fd:FuncData}(F:Fun K "_law_draws" "_law_draws" sDraws f fd)(T:Txt mg)(nabs:mg "abs"=none):FnOk P w K mg base CX0 1 f fd ["script","many"] (spDraws K):=by
 refine F.ok scDraws (fun vs H Q E h=>?_) (fun cdv A outer s H vs Q E hr h=>?_)
 ·obtain ⟨a,ns,rfl,_⟩:=h;rfl
 ·obtain ⟨a0,ns,rfl,hS,hlen,k⟩:=h
  have nd:=scDraws.nd
  refine ⟨_,pss_cons (ps_set (i:=2) nd rfl (Or.inl rfl) (pe_lst pa_nil))
   (pss_cons (ps_set (i:=3) nd rfl (Or.inl rfl) pe_int)
   (pss_cons (ps_for PassesOwn.never rfl (pi_enum (by rfl) T.enum (pe_slice sl_list (pv 0) po_none (po_some pe_int))) (pg_tup rfl (pgs_cons (pg_name (i:=4) nd rfl (Or.inl rfl)) (pgs_cons (pg_name (i:=5) nd rfl (Or.inl rfl)) pgs_nil)))
    (pss_cons (ps_set (i:=6) nd rfl (Or.inl rfl) (pe_callB call_abs (by rfl) nabs PyProof.Rows.boot_abs (pa_cons (pv 5) pa_nil)))
    (pss_cons (ps_set (i:=3) nd rfl (Or.inl rfl) (pe_op op_mod (pe_op op_add (pe_op op_mul (pv 3) pe_int) (pv 6)) pe_int))
    (pss_one (ps_if (pt_cmpR op_ge (pv 6) (pe_op op_pow pe_int pe_int) (nomark _))
     (pss_one (ps_while PassesOwn.never (PW.pt (pw_and (pt_cmpR op_gt (pv 6) pe_int (nomark _)) (pw_and1 (pt_cmpR op_lt (lenS T.len (by rfl) (pv 2)) (pv 1) (nomark _)))))
      (pss_cons (ps_expr (pe_bm PySem.F.plainAttrs_list PySem.F.slot_list_append PySem.F.type_list_append mt_append (pv 2) (pa_cons (pe_op op_mod (pv 6) pe_int) pa_nil)))
      (pss_one (ps_set (i:=6) nd rfl (Or.inl rfl) (pe_op op_fdiv (pv 6) pe_int))))))
     (pss_cons (ps_set (i:=7) nd rfl (Or.inl rfl) (pe_op op_mod (pe_op op_mul (pe_op op_add (pe_op op_add (pe_op op_mod (pv 6) pe_int) (pv 4)) pe_int) pe_int) pe_int))
     (pss_cons (ps_set (i:=7) nd rfl (Or.inl rfl) (pe_op op_mod (pe_op op_mul (pv 7) (pv 7)) pe_int))
     (pss_cons (ps_expr (pe_bm PySem.F.plainAttrs_list PySem.F.slot_list_append PySem.F.type_list_append mt_append (pv 2) (pa_cons (pe_op op_mod (pe_op op_fdiv (pv 7) pe_int) pe_int) pa_nil)))
     (pss_cons (ps_set (i:=7) nd rfl (Or.inl rfl) (pe_op op_mod (pe_op op_add (pe_op op_add (pe_op op_mul (pv 7) pe_int) (pe_op op_mul pe_int (pv 4))) pe_int) pe_int))
     (pss_cons (ps_set (i:=7) nd rfl (Or.inl rfl) (pe_op op_mod (pe_op op_mul (pv 7) (pv 7)) pe_int))
     (pss_one (ps_expr (pe_bm PySem.F.plainAttrs_list PySem.F.slot_list_append PySem.F.type_list_append mt_append (pv 2) (pa_cons (pe_op op_mod (pe_op op_fdiv (pv 7) pe_int) pe_int) pa_nil))))))))))))))
   (pss_cons (ps_for PassesOwn.never rfl (pi_range1 (by rfl) T.range (pa_cons (pe_op op_sub (pv 1) (lenS T.len (by rfl) (pv 2))) pa_nil)) (pg_name (i:=4) nd rfl (Or.inl rfl))
    (pss_cons (ps_set (i:=7) nd rfl (Or.inl rfl) (pe_op op_mod (pe_op op_add (pe_op op_add (pv 3) (pe_op op_mul pe_int (pv 4))) pe_int) pe_int))
    (pss_cons (ps_set (i:=7) nd rfl (Or.inl rfl) (pe_op op_mod (pe_op op_mul (pv 7) (pv 7)) pe_int))
    (pss_cons (ps_set (i:=7) nd rfl (Or.inl rfl) (pe_op op_mod (pe_op op_add (pe_op op_mul (pv 7) pe_int) (pv 4)) pe_int))
    (pss_one (ps_expr (pe_bm PySem.F.plainAttrs_list PySem.F.slot_list_append PySem.F.type_list_append mt_append (pv 2) (pa_cons (pe_op op_mod (pe_op op_fdiv (pe_op op_mod (pe_op op_mul (pv 7) (pv 7)) pe_int) pe_int) pe_int) pa_nil))))))))
   (pss_one (ps_ret (pv 2)))))),?_⟩
  refine ⟨sz (by decide),fun l hl=>?_⟩
  have s1:Same H (upd H l (.lst [])):=same_upd hl
  have u1:(upd H l (.lst [])) l=some (.lst (([]:List Int).map V.int)):=upd_same
  have hS1:SqL K (upd H l (.lst [])) a0 (ns.map V.int):=s1.seq hS
  generalize upd H l (.lst [])=H1 at s1 u1 hS1⊢
  refine ⟨_,rfl,_,rfl,a0,_,rfl,hS1,fun p hp=>?_⟩
  have hints:∀ x∈cutV (ns.map V.int) none (some 63),∃ n:Int,x=V.int n:=fun x hx=>by
   obtain ⟨n,_,rfl⟩:=List.mem_map.mp (mem_cut hx)
   exact ⟨n,rfl⟩
  have hcl:(cutV (ns.map V.int) none (some 63)).length≤63:=by
   have:=len_cut (xs:=ns.map V.int) (lo:=none) (hi:=some 63)
   rw [List.length_map] at this
   omega
  generalize cutV (ns.map V.int) none (some 63)=xs at hints hcl⊢
  have s2:Same H (upd H1 p (.lst xs)):=s1.trans (same_upd hp)
  have u2:(upd H1 p (.lst xs)) p=some (.lst xs):=upd_same
  have npl:l≠p:=ne_of_none u1 hp
  have l2:(upd H1 p (.lst xs)) l=some (.lst (([]:List Int).map V.int)):=by rw [upd_ne npl];exact u1
  generalize upd H1 p (.lst xs)=H2 at s2 u2 l2⊢
  refine ⟨p,rfl,⟨_,SqL.of u2⟩,for_enum (K:=K) (a:=p) (xs:=xs) (fun i σ H'=>∃ (ds:List Int) (bs:Int) (v4 v5 v6 v7:Option V),σ=[some (.ref a0),some (.int 300),some (.ref l),some (.int bs),v4,v5,v6,v7]∧Same H H'∧
   H' p=some (.lst xs)∧H' l=some (.lst (ds.map V.int))∧ds.length≤300+2*i∧0≤bs∧bs<2147483629) ⟨[],7,none,none,none,none,rfl,s2,u2,l2,by simp,by decide,by decide⟩ (fun i σ H' _ h=>by obtain ⟨_,_,_,_,_,_,_,_,h,_⟩:=h;exact SqL.of h) ?_ ?_⟩
  ·rintro i x σ H' t hx ⟨ds,bs,v4,v5,v6,v7,rfl,s6,hp6,hl6,hd6,b0,b1⟩ ht
   have hi:i<xs.length:=(List.getElem?_eq_some_iff.mp hx).1
   obtain ⟨n,rfl⟩:=hints x (List.mem_of_getElem? hx)
   have s7:Same H' (upd H' t (.tup [.int i,.int n])):=same_upd ht
   refine ⟨t,_,rfl,SqT.of upd_same,rfl,_,_,rfl,_,_,rfl,rfl,?_⟩
   have sG:=s6.trans s7
   have pG:=s7 _ _ hp6
   have lG:=s7 _ _ hl6
   generalize upd H' t (.tup [.int i,.int n])=G at sG pG lG⊢
   refine ⟨_,rfl,n,rfl,?_⟩
   have m0:0≤(if n<0 then -n else n):=by split <;> omega
   generalize (if n<0 then -n else n)=m at m0⊢
   refine ⟨_,rfl,_,_,rfl,rfl,.inr ⟨by decide,by decide⟩,_,rfl,_,_,rfl,rfl,_,_,rfl,rfl,(by show (0:Int)<2147483629;decide),?_⟩
   obtain ⟨c0,c1⟩:=emod_in (bs*31+m) (m:=2147483629) (by decide)
   dsimp only
   generalize (bs*31+m) % 2147483629=bt at c0 c1⊢
   refine ⟨_,rfl,_,_,rfl,rfl,⟨by decide,by decide,by decide⟩,_,_,rfl,rfl,_,rfl,ite2 (fun _=>?_) (fun _=>?_)⟩
   ·refine ⟨fun mu σ H'=>∃ (es:List Int) (m:Int),σ=[some (.ref a0),some (.int 300),some (.ref l),some (.int bt),some (.int i),some (.int n),some (.int m),v7]∧mu=300 - es.length∧Same H H'∧H' p=some (.lst xs)∧H' l=some (.lst (es.map V.int))∧es.length≤300+2*i,
     ⟨_,ds,m,rfl,rfl,sG,pG,lG,hd6⟩,?_⟩
    rintro mu σ H2 ⟨es,m2,rfl,rfl,s8,hp8,hl8,hd8⟩
    have fin:∃ (ds:List Int) (bs:Int) (v4 v5 v6 v7':Option V),[some (.ref a0),some (.int 300),some (.ref l),some (.int bt),some (.int i),some (.int n),some (.int m2),v7]=[some (.ref a0),some (.int 300),some (.ref l),some (.int bs),v4,v5,v6,v7']∧Same H H2∧
      H2 p=some (.lst xs)∧H2 l=some (.lst (ds.map V.int))∧ds.length≤300+2*(i+1)∧0≤bs∧bs<2147483629:=⟨es,bt,_,_,_,_,rfl,s8,hp8,hl8,by omega,c0,c1⟩
    refine ⟨_,rfl,_,_,rfl,rfl,_,rfl,ite2 (fun _=>?_) (fun _=>fin)⟩
    refine ⟨_,rfl,l,_,rfl,.inl (SqL.of hl8),_,rfl,_,_,rfl,rfl,_,rfl,ite2 (fun hlt=>?_) (fun _=>fin)⟩
    have hlt':es.length<300:=by
     have z:=of_decide_eq_true hlt
     rw [List.length_map] at z
     omega
    refine ⟨fun σ' H'=>∃ (e:Int) (m:Int),σ'=[some (.ref a0),some (.int 300),some (.ref l),some (.int bt),some (.int i),some (.int n),some (.int m),v7]∧Same H H'∧H' p=some (.lst xs)∧H' l=some (.lst ((es++[e]).map V.int)),
     fun σ' H' ⟨e,m,h1,h2,h3,h4⟩=>⟨300 - (es++[e]).length,by simp;omega,es++[e],m,h1,rfl,h2,h3,h4,by simp;omega⟩,?_⟩
    refine ⟨_,rfl,.inl ⟨rfl,_,SqL.of hl8⟩,_,rfl,_,_,rfl,rfl,(by show (0:Int)<10007;decide),l,_,_,rfl,rfl,hl8,szl (by rw [List.length_map];omega),?_⟩
    refine ⟨_,rfl,_,_,rfl,rfl,⟨by decide,by decide⟩,m2 % 10007,m2 / 10007,rfl,same_upd2 s8 hl,?_,?_⟩
    ·rw [upd_ne npl.symm];exact hp8
    ·rw [upd_same];simp
   ·-- one
    refine ⟨_,rfl,_,_,rfl,rfl,(by show (0:Int)<2147483647;decide),_,rfl,_,_,rfl,rfl,_,_,rfl,rfl,_,_,rfl,rfl,.inr ⟨by decide,by decide⟩,_,_,rfl,rfl,(by show (0:Int)<2147483647;decide),?_⟩
    obtain ⟨x0,x1⟩:=emod_in ((m % 2147483647+i+1)*48271) (m:=2147483647) (by decide)
    dsimp only
    generalize (m % 2147483647+(i:Int)+1)*48271 % 2147483647=one at x0 x1⊢
    refine ⟨_,rfl,_,rfl,_,_,rfl,rfl,.inl ⟨by omega,by omega⟩,_,_,rfl,rfl,(by show (0:Int)<2147483629;decide),?_⟩
    obtain ⟨y0,y1⟩:=emod_in (one*one) (m:=2147483629) (by decide)
    dsimp only
    generalize one*one % 2147483629=two at y0 y1⊢
    refine ⟨_,rfl,.inl ⟨rfl,_,SqL.of lG⟩,_,rfl,_,_,rfl,rfl,⟨by decide,by decide⟩,_,_,rfl,rfl,(by show (0:Int)<10007;decide),l,_,_,rfl,rfl,lG,szl (by rw [List.length_map];omega),?_⟩
    have l8:(upd G l (.lst (ds.map V.int++[V.int (two / 8 % 10007)]))) l=some (.lst ((ds++[two / 8 % 10007]).map V.int)):=by rw [upd_same];simp
    have p8:(upd G l (.lst (ds.map V.int++[V.int (two / 8 % 10007)]))) p=some (.lst xs):=by rw [upd_ne npl.symm];exact pG
    have s8:Same H (upd G l (.lst (ds.map V.int++[V.int (two / 8 % 10007)]))):=same_upd2 sG hl
    dsimp only
    generalize upd G l (.lst (ds.map V.int++[V.int (two / 8 % 10007)]))=G8 at l8 p8 s8⊢
    refine ⟨_,rfl,_,_,rfl,rfl,.inr ⟨by decide,by decide⟩,_,rfl,_,_,rfl,rfl,.inl ⟨by decide,by decide⟩,_,_,rfl,rfl,_,_,rfl,rfl,_,_,rfl,rfl,(by show (0:Int)<2147483563;decide),?_⟩
    obtain ⟨z0,z1⟩:=emod_in (two*40692+2*i+1) (m:=2147483563) (by decide)
    dsimp only
    generalize (two*40692+2*(i:Int)+1) % 2147483563=three at z0 z1⊢
    refine ⟨_,rfl,_,rfl,_,_,rfl,rfl,.inl ⟨by omega,by omega⟩,_,_,rfl,rfl,(by show (0:Int)<2147483647;decide),?_⟩
    dsimp only
    generalize three*three % 2147483647=four
    refine ⟨_,rfl,.inl ⟨rfl,_,SqL.of l8⟩,_,rfl,_,_,rfl,rfl,⟨by decide,by decide⟩,_,_,rfl,rfl,(by show (0:Int)<10007;decide),l,_,_,rfl,rfl,l8,szl (by rw [List.length_map,List.length_append];simp;omega),?_⟩
    refine ⟨ds++[two / 8 % 10007]++[four / 8 % 10007],bt,_,_,_,_,rfl,same_upd2 s8 hl,?_,?_,by simp;omega,c0,c1⟩
    ·rw [upd_ne npl.symm];exact p8
    ·rw [upd_same];simp
  ·rintro σ H6 ⟨ds,bs,v4,v5,v6,v7,rfl,s6,hp6,hl6,hd6,b0,b1⟩
   have el:(((ds.map V.int).length:Nat):Int)=(ds.length:Int):=by simp
   refine ⟨_,rfl,_,rfl,l,_,rfl,.inl (SqL.of hl6),_,_,rfl,rfl,_,rfl,?_⟩
   rw [el]
   refine ⟨by omega,by omega,?_⟩
   refine for_range (n:=(300 - (ds.length:Int)).toNat) (fun j σ H'=>∃ (es:List Int) (v4 v5 v6 v7:Option V),σ=[some (.ref a0),some (.int 300),some (.ref l),some (.int bs),v4,v5,v6,v7]∧Same H H'∧H' l=some (.lst (es.map V.int))∧es.length=ds.length+j)
    ⟨ds,_,_,_,_,rfl,s6,hl6,rfl⟩ ?_ ?_
   ·rintro j σ H' hj ⟨es,w4,w5,w6,w7,rfl,s8,hl8,hd8⟩
    refine ⟨_,rfl,_,rfl,_,_,rfl,rfl,.inl ⟨by decide,by decide⟩,_,_,rfl,rfl,_,_,rfl,rfl,_,_,rfl,rfl,(by show (0:Int)<2147483629;decide),?_⟩
    obtain ⟨x0,x1⟩:=emod_in (bs+7919*(0+(j:Int))+13) (m:=2147483629) (by decide)
    dsimp only
    generalize (bs+7919*(0+(j:Int))+13) % 2147483629=one at x0 x1⊢
    refine ⟨_,rfl,_,rfl,_,_,rfl,rfl,.inl ⟨by omega,by omega⟩,_,_,rfl,rfl,(by show (0:Int)<2147483647;decide),?_⟩
    obtain ⟨y0,y1⟩:=emod_in (one*one) (m:=2147483647) (by decide)
    dsimp only
    generalize one*one % 2147483647=two at y0 y1⊢
    refine ⟨_,rfl,_,_,rfl,rfl,.inr ⟨by decide,by decide⟩,_,rfl,_,_,rfl,rfl,_,_,rfl,rfl,(by show (0:Int)<2147483563;decide),?_⟩
    obtain ⟨z0,z1⟩:=emod_in (two*69621+(0+(j:Int))) (m:=2147483563) (by decide)
    dsimp only
    generalize (two*69621+(0+(j:Int))) % 2147483563=three at z0 z1⊢
    refine ⟨_,rfl,.inl ⟨rfl,_,SqL.of hl8⟩,_,rfl,_,rfl,_,_,rfl,rfl,.inl ⟨by omega,by omega⟩,_,_,rfl,rfl,(by show (0:Int)<2147483629;decide),_,_,rfl,rfl,⟨by decide,by decide⟩,_,_,rfl,rfl,(by show (0:Int)<10007;decide),l,_,_,rfl,rfl,hl8,szl (by rw [List.length_map];omega),?_⟩
    refine ⟨es++[three*three % 2147483629 / 8 % 10007],_,_,_,_,rfl,same_upd2 s8 hl,?_,by simp;omega⟩
    rw [upd_same];simp
   ·rintro σ H' ⟨es,w4,w5,w6,w7,rfl,s8,hl8,hd8⟩
    exact ⟨_,rfl,k l H' es hl s8 hl8 (by omega)⟩
end
end Hv
namespace Hv
open PySem L2
noncomputable def spLaw(K:PySem.W.Frag):Sp:=fun vs H Q _=>∃ (a:Addr) (ns:List Int),vs=[.ref a]∧SqL K H a (ns.map V.int)∧ns.length≤63∧∀ H',Q (.bl true) H'
noncomputable def frD(b:Nat)(ps:List Nat)(ws:List Int):PyData:=.tuple [.int b,.list ((ps.map fun (p:Nat)=>(p:Int)).map PyData.int),.list (ws.map PyData.int)]
theorem frD_lay(b:Nat)(ps:List Nat)(ws:List Int):(frD b ps ws).canLay0=true:=by
 simp only [frD,PyData.canLay0,PyData.canLayAll0,lays,Bool.and_self]
theorem frD_depth(b:Nat)(ps:List Nat)(ws:List Int):(frD b ps ws).depth≤60:=by
 simp only [frD,PyData.depth,PyData.depthAll,depths]
 decide
theorem FrAt.dat{P:Program}{w:World}{H:Hp}{f a c:Addr}{b:Nat}{ps:List Nat}{ws:List Int}(G:FrAt H f a c b ps ws):DatV P w H (.ref f) (frD b ps ws) :=
 datT G.tp (.cons (datI _) (.cons (datL G.hp (by rw [natV_eq];exact datIs _)) (.cons (datL G.hw (datIs _)) .nil)))
end Hv
namespace Me
noncomputable abbrev tot(f:List (Int×Int)):Int:=(f.map (·.2)).sum
end Me
namespace Me
noncomputable abbrev gv(f:List (Int×Int))(k:Int):Int:=(look f k).getD 0
end Me
namespace Hv
open PySem L2
noncomputable def spWholeL:Sp:=fun vs H Q _=>∃ m:Int,vs=[.int m,.int m]∧Q (.bl true) H
section
variable{P:Program}{w:World}{K:PySem.W.Frag}{mg:Str→Option Value}{base:Heap}
theorem scWholeL:FnScope ["found","due"] ["found","due"] (defScope sWholeL):=⟨rfl,rfl,rfl,by decide +kernel,rfl,by decide +kernel,by decide +kernel⟩
theorem ok_wholel{f:Addr}{fd:FuncData}(F:Fun K "_law_whole" "_law_whole" sWholeL f fd)(T:Txt mg):FnOk P w K mg base CX0 1 f fd ["found","due"] spWholeL:=by
 refine F.ok scWholeL (fun vs H Q E h=>?_) (fun cdv A outer s H vs Q E hr h=>?_)
 ·obtain ⟨m,rfl,_⟩:=h;rfl
 ·obtain ⟨m,rfl,k⟩:=h
  refine ⟨_,pss_one (ps_ret (pe_and (pe_callB call_isi (by rfl) T.isi boot_isinstance (pa_cons (pv 0) (pa_cons (pe_ty T.int boot_int) pa_nil)))
   (pe_and (pe_not (pe_callB call_isi (by rfl) T.isi boot_isinstance (pa_cons (pv 0) (pa_cons (pe_ty T.bool boot_bool) pa_nil)))) (pe_one (pe_cmpR op_eq (pv 0) (pv 1) (nomark _)))))),?_⟩
  refine ⟨_,rfl,_,_,_,_,rfl,.int m,kit_ii,true,rfl,iteT ⟨_,rfl,_,_,_,_,rfl,.int m,kit_ib,false,rfl,true,rfl,iteT ⟨_,rfl,_,rfl,rfl,?_⟩⟩⟩
  have e:decide (V.int m=V.int m)=true:=decide_eq_true rfl
  rw [e]
  exact k
end
end Hv
namespace Ma
noncomputable def num(b:Nat)(ds:List Nat):Nat:=ds.foldl (fun x d=>x*b+d) 0
theorem num_gen(b:Nat):∀ (l:List Nat) (x:Nat),l.foldl (fun x d=>x*b+d) x=x*b ^ l.length+l.foldl (fun x d=>x*b+d) 0
 | [],x=>by simp
 | d::l,x=>by
  simp only [List.foldl_cons,List.length_cons]
  rw [num_gen b l (x*b+d),num_gen b l (0*b+d),Nat.pow_succ,Nat.zero_mul,Nat.zero_add,Nat.add_mul,Nat.mul_assoc x b,Nat.mul_comm b,Nat.add_assoc]
theorem num_cons(b d:Nat)(l:List Nat):num b (d::l)=d*b ^ l.length+num b l:=by
 show l.foldl (fun x d=>x*b+d) (0*b+d)=_
 rw [num_gen,Nat.zero_mul,Nat.zero_add]
 rfl
theorem num_snoc(b d:Nat)(l:List Nat):num b (l++[d])=num b l*b+d:=by
 unfold num
 rw [List.foldl_append]
 rfl
theorem num_take{b i d:Nat}{ds:List Nat}(h:ds[i]?=some d):num b (ds.take (i+1))=num b (ds.take i)*b+d:=by
 rw [List.take_add_one,h]
 exact num_snoc b d _
noncomputable def behind(b n L:Nat):Nat:=num b (dws b n L L).reverse
theorem num_lt{b:Nat}:∀ (ds:List Nat),(∀ d∈ds,d<b)→num b ds<b ^ ds.length
 | [],_=>by simp [num]
 | d::l,h=>by
  have h1:=h d (by simp)
  have h2:=num_lt l fun x hx=>h x (List.mem_cons_of_mem _ hx)
  rw [num_cons,List.length_cons,Nat.pow_succ]
  have:d*b ^ l.length+b ^ l.length≤b*b ^ l.length:=by
   rw [← Nat.succ_mul]
   exact Nat.mul_le_mul_right _ h1
  rw [Nat.mul_comm (b ^ l.length) b]
  omega
theorem num_dws{b n L:Nat}(hb:0<b)(hn:n<b ^ L):num b (dws b n L L)=n:=by
 have:∀ i,i≤L→num b ((dws b n L L).take i)=n / b ^ (L - i):=by
  intro i
  induction i with
  | zero=>intro _;rw [List.take_zero,Nat.sub_zero,Nat.div_eq_of_lt hn];rfl
  | succ i ih =>
   intro hi
   have hi':i<L:=hi
   have g:(dws b n L L)[i]?=some (n / b ^ (L - 1 - i) % b):=by simp [dws,hi']
   rw [num_take g,ih (by omega)]
   have e1:L - i=(L - 1 - i)+1:=by omega
   have e2:L - (i+1)=L - 1 - i:=by omega
   rw [e1,e2,Nat.pow_succ,← Nat.div_div_eq_div_mul,Nat.mul_comm]
   exact Nat.div_add_mod _ _
 have h:=this L (Nat.le_refl _)
 rw [Nat.sub_self,Nat.pow_zero,Nat.div_one,List.take_of_length_le (by rw [dws_len];exact Nat.le_refl _)] at h
 exact h
end Ma
namespace Hv
open PySem L2
theorem nat_at{ds:List Nat}{i:Nat}{x:V}(h:(natV ds)[i]?=some x):∃ y:Nat,ds[i]?=some y∧x=.int (y:Int):=by
 simp only [natV,List.getElem?_map] at h
 cases e:ds[i]? with
 | none=>rw [e] at h;cases h
 | some d=>rw [e] at h;exact ⟨d,rfl,(Option.some.inj h).symm⟩
noncomputable def spNumberOf:Sp:=fun vs H Q _=>∃ (b:Nat) (r:Addr) (ds:List Nat),vs=[.int b,.ref r]∧b≤16∧H r=some (.lst (natV ds))∧Q (.int ((Ma.num b ds:Nat):Int)) H
section
variable{P:Program}{w:World}{K:PySem.W.Frag}{mg:Str→Option Value}{base:Heap}
theorem scNumberOf:FnScope ["base","figures","number","figure"] ["base","figures"] (defScope sNumberOf):=⟨rfl,rfl,rfl,by decide +kernel,rfl,by decide +kernel,by decide +kernel⟩
theorem ok_numberof{f:Addr}{fd:FuncData}(F:Fun K "number_of" "number_of" sNumberOf f fd):FnOk P w K mg base CX0 1 f fd ["base","figures"] spNumberOf:=by
 refine F.ok scNumberOf (fun vs H Q E h=>?_) (fun cdv A outer s H vs Q E hr h=>?_)
 ·obtain ⟨b,r,ds,rfl,_⟩:=h;rfl
 ·obtain ⟨b,r,ds,rfl,hb,hd,k⟩:=h
  have nd:=scNumberOf.nd
  refine ⟨_,pss_cons (ps_set (i:=2) nd rfl (Or.inl rfl) pe_int)
   (pss_cons (ps_for PassesOwn.never rfl (pi_list (pv 1)) (pg_name (i:=3) nd rfl (Or.inl rfl)) (pss_one (ps_set (i:=2) nd rfl (Or.inl rfl) (pe_op op_add (pe_op op_mul (pv 2) (pv 0)) (pv 3)))))
   (pss_one (ps_ret (pv 2)))),?_⟩
  refine ⟨_,rfl,r,rfl,⟨_,SqL.of hd⟩,for_list (K:=K) (a:=r) (xs:=natV ds) (fun i σ H'=>H=H'∧∃ v3,σ=[some (.int b),some (.ref r),some (.int ((Ma.num b (ds.take i):Nat):Int)),v3])
   ⟨rfl,none,rfl⟩ (fun i σ H' _ h=>by rw [← h.1];exact SqL.of hd) ?_ ?_⟩
  ·rintro i x σ H' hx ⟨rfl,v3,rfl⟩
   obtain ⟨y,hy,rfl⟩:=nat_at hx
   refine ⟨_,rfl,_,rfl,_,_,rfl,rfl,.inr ⟨by omega,by omega⟩,_,rfl,_,_,rfl,rfl,rfl,some (.int (y:Int)),?_⟩
   rw [Ma.num_take hy]
   push_cast
   rfl
  ·rintro σ H' ⟨rfl,v3,rfl⟩
   refine ⟨_,rfl,?_⟩
   have e:(natV ds).length=ds.length:=by simp [natV]
   rw [e,List.take_length]
   exact k
end
end Hv
namespace L2
open PySem PySem.Spec PyProof.Rows
noncomputable def Itv(K:PySem.W.Frag)(a:Addr)(xs:List V):It:=⟨fun i H=>SqL K H a xs∧i<xs.length,fun i H x H'=>H'=H∧xs.reverse[i]?=some x,fun i H=>SqL K H a xs∧i=xs.length⟩
theorem turn_rev{P:Program}{w:World}{K:PySem.W.Frag}{tg:Expr}(a it:Addr)(xs:List V):Turn P w K tg (Itv K a xs) [it] it (fun i h=>h.IsRevIter it a ((xs.length:Int) - 1 - (i:Int))) where
 mem:=by simp
 obj:=fun i h st b hb=>by
  have e:b=it:=by simpa using hb
  subst e
  obtain ⟨o,e,c,d⟩:=st
  exact ⟨o,e,fun v z=>by rw [d] at z;cases z⟩
 keep:=fun i h h' st k=>st.at fun o e=>k it (by simp) o e
 item:=by
  intro X hP hw hK hc i pins s σ H E I hf st hg
  subst hP hw hK
  obtain ⟨hq,hi⟩:=hg
  obtain ⟨its,rv,p,hz⟩:=I.list hq
  have hx:xs[xs.length - 1 - i]?=some (xs[xs.length - 1 - i]'(by omega)):=List.getElem?_eq_getElem (by omega)
  obtain ⟨u,hu,ru⟩:=rv.get hx
  obtain ⟨f0,f1,f2,f3,f4,f5⟩:=hf it (by simp)
  have e1:(xs.length:Int) - 1 - (i:Int)=((xs.length - 1 - i:Nat):Int):=by omega
  have st1:=st
  rw [e1] at st1
  refine wpAny_pyNext_rev_item st1 p.isList (x:=u) (by simpa using hu) fun h' st' sb=>?_
  have I1:Inv X pins σ H {s with heap:=h'}:=I.turned (t':=s.toks) (fun b o hb e=>(sb.2 b hb).trans e) f0 f1 f3 f4 f5
  have e2:((xs.length - 1 - i:Nat):Int) - 1=(xs.length:Int) - 1 - ((i+1:Nat):Int):=by omega
  rw [e2] at st'
  obtain ⟨o,e,c,d⟩:=id st'
  refine ⟨u,rfl,go_of (s:={s with heap:=h'}) e c d (by decide) ⟨_,H,I1,ru,⟨rfl,?_⟩,st',fun b hb=>(hf b hb).1⟩⟩
  rw [List.getElem?_reverse hi]
  exact hx
 done:=by
  intro X hP hw hK hc i pins s σ H E I hf st hg
  subst hP hw hK
  obtain ⟨hq,hx⟩:=hg
  obtain ⟨f0,f1,f2,f3,f4,f5⟩:=hf it (by simp)
  have e1:(xs.length:Int) - 1 - (i:Int) = -1:=by omega
  have st1:=st
  rw [e1] at st1
  exact wpAny_pyNext_rev_end (I.ok.hd hc) st1 fun h' eb=>⟨rfl,I.turned (t':=s.toks) (fun b o hb e=>eb b o hb e) f0 f1 f3 f4 f5⟩
 self:=fun _ _ _ _ _ st h=>wpAny_pyIter_revIter st h
section
variable{X:Cx}{tg:Expr}
noncomputable def iRev(K:PySem.W.Frag)(tl:TE):TI:=fun σ H R=>tl σ H fun x H1=>∃ a xs,x=.ref a∧SqL K H1 a xs∧R (Itv K a xs) H1
theorem pi_rev{l:Expr}{tl:TE}{p pos:Pos}(hg:Gl X "reversed")(hm:X.mg "reversed"=none)(hl:PE X l tl)(hs:starEach [l] X.env=[(false,eval l X.env)]:=by rfl):PI X tg (.Call (.Name "reversed" p) [l] [] pos) (iRev X.K tl):=by
 intro pins s σ H R I h
 refine wpAny_Call_Name_kw (ld_blt I hg hm boot_reversed (PyProof.Rows.callWith_type1 ?_ hs rfl))
 rw [hs]
 show wpAny _ _ (spliced ((false,eval l X.env)::backTo pos (starEach [] X.env))) _ _ s
 refine Calls.spliced_cons (thn (hl pins s σ H _ I h) fun u s1 ⟨x,H1,I1,r1,q1⟩=>Calls.spliced_nil ?_)
 obtain ⟨a,xs,rfl,hq,q⟩:=q1
 cases r1
 obtain ⟨its,rv,pl,hz⟩:=I1.list hq
 have hlen:=rv.length
 refine call_reversed_list pl.isList ?_
 have e0:((its.toArray.size:Int) - 1)=(xs.length:Int) - 1 - ((0:Nat):Int):=by rw [List.size_toArray,← hlen];simp
 have T:=turn_rev (P:=X.prog) (w:=X.w) (K:=X.K) (tg:=tg) a s1.heap.objs.size xs
 have st:(s1.heap.push (revObj a ((its.toArray.size:Int) - 1))).IsRevIter s1.heap.objs.size a ((xs.length:Int) - 1 - ((0:Nat):Int)):=⟨_,Heap.get?_push_size _ rfl,rfl,by rw [← e0];rfl⟩
 refine T.self _ 0 _ _ _ st ?_
 refine ⟨s1.heap.objs.size,[s1.heap.objs.size],_,_,H1,rfl,I1.kept (t':=s1.toks) fun b o e=>Heap.get?_push_of_some _ e,T,st,fun b hb=>?_,q⟩
 have e:b=s1.heap.objs.size:=by simpa using hb
 subst e
 exact I1.fpOk (Nat.le_refl _) (I1.hok.fresh (Nat.le_refl _))
end
theorem for_rev{K:PySem.W.Frag}{a:Addr}{xs:List V}{g:TG}{tb:TS}{D:Ends}{σ:St}{H:Hp}(Pv:Nat→St→Hp→Prop)(h0:Pv 0 σ H)(hl:∀ i σ H,i≤xs.length→Pv i σ H→SqL K H a xs)
  (hs:∀ i x σ H,xs.reverse[i]?=some x→Pv i σ H→g x σ H fun σ2 H2=>tb {D with nx:=Pv (i+1),ct:=Pv (i+1),bk:=D.nx} σ2 H2) (hd:∀ σ H,Pv xs.length σ H→D.nx σ H) :
  ∃ W:Nat→Nat→St→Hp→Prop,(∃ m,W 0 m σ H)∧∀ i m σ H,W i m σ H→
   ((Itv K a xs).stop i H∧D.nx σ H)∨((Itv K a xs).go i H∧∃ N:St→Hp→Prop,(∀ σ' H',N σ' H'→∃ m',m'<m∧W (i+1) m' σ' H')∧∀ x H',(Itv K a xs).yld i H x H'→g x σ H' fun σ2 H2=>tb {D with nx:=N,ct:=N,bk:=D.nx} σ2 H2):=by
 refine ⟨fun i m σ H=>m=xs.length - i∧i≤xs.length∧Pv i σ H,⟨xs.length,by simp,Nat.zero_le _,h0⟩,?_⟩
 rintro i m σ H ⟨rfl,hi,p⟩
 have q:=hl i σ H hi p
 by_cases hlt:i<xs.length
 ·refine .inr ⟨⟨q,hlt⟩,Pv (i+1),fun σ' H' p'=>⟨xs.length - (i+1),by omega,rfl,hlt,p'⟩,fun x H' y=>?_⟩
  obtain ⟨e,y⟩:=y
  subst e
  exact hs i x σ _ y p
 ·have e:i=xs.length:=by omega
  subst e
  exact .inl ⟨⟨q,rfl⟩,hd σ H p⟩
section
variable{X:Cx}
end
end L2
namespace Me
end Me
namespace Hv
open PySem L2
noncomputable abbrev PD(H:Hp)(kvs:List (Key×V))(f:List (Int×Int)):Prop:=Paired (fun kv p=>kv.1=Sum.inl p.1∧∃ t j,kv.2=V.ref t∧H t=some (.tup [.int p.2,.int j])) kvs f
section
variable{P:Program}{w:World}{K:PySem.W.Frag}{mg:Str→Option Value}{base:Heap}
theorem scAddRows:FnScope ["by_sums","total","ways","worth","before"] ["by_sums","total","ways","worth"] (defScope sAddRows):=⟨rfl,rfl,rfl,by decide +kernel,rfl,by decide +kernel,by decide +kernel⟩
end
end Hv
namespace Hv
open PySem L2
section
variable{P:Program}{w:World}{K:PySem.W.Frag}{mg:Str→Option Value}{base:Heap}
theorem scAhead:FnScope ["tail","base","weight","stand","longer","total","ways","worth","figure"] ["tail","base","weight","stand"] (defScope sAhead):=⟨rfl,rfl,rfl,by decide +kernel,rfl,by decide +kernel,by decide +kernel⟩
end
end Hv
namespace Hv
open PySem L2
theorem star_dict(ks:List (Option Expr))(vs:List Expr)(pos:Pos)(rest:List Expr)(env:Env):starEach (.Dict ks vs pos::rest) env=(false,eval (.Dict ks vs pos) env)::starEach rest env:=rfl
theorem pe_D1{X:Cx}{k v:Expr}{p5:Pos}{tk tv:TE}(h1:PE X k tk)(h2:PE X v tv):PE X (.Dict [some k] [v] p5) (tDisp [(tk,tv)]) :=
 pe_disp (pps_cons h1 h2 pps_nil) rfl rfl (List.cons_ne_nil _ _) (Nat.succ_le_succ (Nat.zero_le _))
theorem pe_T{X:Cx}{j2 j3 x1}{p2 p3 p4:Pos}:PE X (.Tuple [.Constant (.int 1) j2 p2,.Constant (.int 0) j3 p3] x1 p4) (tTup (tCons (tC (.int 1)) (tCons (tC (.int 0)) tNil))):=pe_tup (pa_cons pe_int (pa_cons pe_int pa_nil))
theorem pe_K{X:Cx}{j1}{p1:Pos}:PE X (.Constant (.int 0) j1 p1) (tC (.int 0)):=pe_int
noncomputable abbrev tStart:TE:=tLst (tCons (tDisp [(tC (.int 0),tTup (tCons (tC (.int 1)) (tCons (tC (.int 0)) tNil)))]) tNil)
theorem pe_DD{X:Cx}{j1 j2 j3 x1}{p1 p2 p3 p4 p5:Pos}:PE X (.Dict [some (.Constant (.int 0) j1 p1)] [.Tuple [.Constant (.int 1) j2 p2,.Constant (.int 0) j3 p3] x1 p4] p5) (tDisp [(tC (.int 0),tTup (tCons (tC (.int 1)) (tCons (tC (.int 0)) tNil)))]) :=
 @pe_D1 X (.Constant (.int 0) j1 p1) (.Tuple [.Constant (.int 1) j2 p2,.Constant (.int 0) j3 p3] x1 p4) p5 (tC (.int 0)) (tTup (tCons (tC (.int 1)) (tCons (tC (.int 0)) tNil))) pe_K pe_T
theorem pe_B{X:Cx}{ks:List (Option Expr)}{vs:List Expr}{p5 p6:Pos}{t:TE}(h:PE X (.Dict ks vs p5) t):PE X (.List [.Dict ks vs p5] p6) (tLst (tCons t tNil)) :=
 pe_lst (pa_cons h pa_nil (star_dict _ _ _ _ _))
theorem pe_start{X:Cx}{j1 j2 j3 x1}{p1 p2 p3 p4 p5 p6:Pos}:PE X (.List [.Dict [some (.Constant (.int 0) j1 p1)] [.Tuple [.Constant (.int 1) j2 p2,.Constant (.int 0) j3 p3] x1 p4] p5] p6) tStart :=
 @pe_B X [some (.Constant (.int 0) j1 p1)] [.Tuple [.Constant (.int 1) j2 p2,.Constant (.int 0) j3 p3] x1 p4] p5 p6 (tDisp [(tC (.int 0),tTup (tCons (tC (.int 1)) (tCons (tC (.int 0)) tNil)))]) pe_DD
@[irreducible] noncomputable def e0:Expr:=match (defBody sTails).getD 1 (.Pass ⟨0,0,0,0⟩) with
 | .Assign _ e _=>e
 | _=>.Constant .none 0 ⟨0,0,0,0⟩
theorem e0_eq:∃ j1 j2 j3 x1 p1 p2 p3 p4 p5 p6,e0=.List [.Dict [some (.Constant (.int 0) j1 p1)] [.Tuple [.Constant (.int 1) j2 p2,.Constant (.int 0) j3 p3] x1 p4] p5] p6:=by
 unfold e0
 exact ⟨_,_,_,_,_,_,_,_,_,_,rfl⟩
theorem pe_e0{X:Cx}:PE X e0 tStart:=by
 obtain ⟨j1,j2,j3,x1,p1,p2,p3,p4,p5,p6,h⟩:=e0_eq
 exact @Eq.mpr _ _ (congrArg (fun e=>PE X e tStart) h) (@pe_start X j1 j2 j3 x1 p1 p2 p3 p4 p5 p6)
theorem sw_e0(x:Str)(pos':Pos)(l:Nat)(env:Env):swapsWith e0 (some (.Name x pos')) l env=pure false:=by
 obtain ⟨j1,j2,j3,x1,p1,p2,p3,p4,p5,p6,h⟩:=e0_eq
 rw [h]
 rfl
noncomputable def b0:List Stmt:=match (defBody sTails).getD 1 (.Pass ⟨0,0,0,0⟩) with
 | .Assign ts _ p=>(defBody sTails).set 1 (.Assign ts e0 p)
 | _=>[]
theorem b0_eq:defBody sTails=b0:=by
 unfold b0 e0
 rfl
noncomputable def powL(b n:Nat):List Int:=(List.range (n+1)).map fun i=>((b ^ i:Nat):Int)
theorem powL_len(b n:Nat):(powL b n).length=n+1:=by simp [powL]
theorem powL_succ(b n:Nat):powL b (n+1)=powL b n++[((b ^ (n+1):Nat):Int)]:=by
 unfold powL
 rw [List.range_succ,List.map_append]
 rfl
theorem powL_at{b n i:Nat}(h:i≤n):(powL b n)[i]?=some ((b ^ i:Nat):Int):=by
 unfold powL
 rw [List.getElem?_map,List.getElem?_range (by omega)]
 rfl
theorem powL_last(b n:Nat):atI ((powL b n).map V.int) (-1)=some (.int ((b ^ n:Nat):Int)):=by
 have hl:((powL b n).map V.int).length=n+1:=by rw [List.length_map,powL_len]
 have e:ixN ((powL b n).map V.int).length (-1)=some n:=by
  rw [hl]
  unfold ixN
  rw [if_neg (by decide),if_pos (by omega)]
  congr 1
  omega
 unfold atI
 rw [e]
 show ((powL b n).map V.int)[n]?=_
 rw [List.getElem?_map,powL_at (Nat.le_refl _)]
 rfl
theorem atI_lastR{us:List Addr}{i:Nat}{t:Addr}(hl:us.length=i+1)(h:us[i]?=some t):atI (us.map V.ref) (-1)=some (.ref t):=by
 have e:ixN (us.map V.ref).length (-1)=some i:=by
  rw [List.length_map,hl]
  unfold ixN
  rw [if_neg (by decide),if_pos (by omega)]
  congr 1
  omega
 unfold atI
 rw [e]
 show (us.map V.ref)[i]?=_
 rw [List.getElem?_map,h]
 rfl
noncomputable def spStands:Sp:=fun vs H Q _=>∃ (b n:Nat),vs=[.int b,.int n]∧b≤16∧n≤6∧∀ (p:Addr) (H':Hp),H p=none→Same H H'→H' p=some (.lst ((powL b n).map V.int))→Q (.ref p) H'
section
variable{P:Program}{w:World}{K:PySem.W.Frag}{mg:Str→Option Value}{base:Heap}
theorem scStands:FnScope ["base","length","stands","place"] ["base","length"] (defScope sStands):=⟨rfl,rfl,rfl,by decide +kernel,rfl,by decide +kernel,by decide +kernel⟩
theorem ok_stands{f:Addr}{fd:FuncData}(F:Fun K "stands_of" "stands_of" sStands f fd)(T:Txt mg):FnOk P w K mg base CX0 1 f fd ["base","length"] spStands:=by
 refine F.ok scStands (fun vs H Q E h=>?_) (fun cdv A outer s H vs Q E hr h=>?_)
 ·obtain ⟨b,n,rfl,_⟩:=h;rfl
 ·obtain ⟨b,n,rfl,hb,hn,k⟩:=h
  have nd:=scStands.nd
  refine ⟨_,pss_cons (ps_set (i:=2) nd rfl (Or.inl rfl) (pe_lst (pa_cons pe_int pa_nil)))
   (pss_cons (ps_for PassesOwn.never rfl (pi_range1 (by rfl) T.range (pa_cons (pv 1) pa_nil)) (pg_name (i:=3) nd rfl (Or.inl rfl))
    (pss_one (ps_expr (pe_bm PySem.F.plainAttrs_list PySem.F.slot_list_append PySem.F.type_list_append mt_append (pv 2) (pa_cons (pe_op op_mul (ixl (pv 2) (pe_un un_neg pe_int)) (pv 0)) pa_nil)))))
   (pss_one (ps_ret (pv 2)))),?_⟩
  refine ⟨sz (by simp),fun l hl=>?_⟩
  refine ⟨_,rfl,_,rfl,by omega,by omega,?_⟩
  have en:(n:Int).toNat=n:=by omega
  rw [en]
  refine for_range (n:=n) (fun i σ H2=>∃ v3,σ=[some (.int b),some (.int n),some (.ref l),v3]∧Same H H2∧H2 l=some (.lst ((powL b i).map V.int))) ⟨none,rfl,same_upd hl,by rw [upd_same];rfl⟩ ?_ ?_
  ·rintro i σ H2 hi ⟨v3,rfl,s2,hl2⟩
   refine ⟨_,rfl,.inl ⟨rfl,_,SqL.of hl2⟩,_,rfl,_,rfl,r_ixl hl2 (powL_last b i) ⟨_,rfl,_,_,rfl,rfl,.inr ⟨by omega,by omega⟩,?_⟩⟩
   refine ⟨l,_,_,rfl,rfl,hl2,szl (by rw [List.length_map,powL_len];omega),_,rfl,same_upd2 s2 hl,?_⟩
   rw [upd_same,powL_succ,List.map_append]
   congr 3
  ·rintro σ H2 ⟨v3,rfl,s2,hl2⟩
   exact ⟨_,rfl,k l H2 hl s2 hl2⟩
theorem scTails:FnScope ["base","weights","stands","tails","weight"] ["base","weights"] (defScope sTails):=⟨rfl,rfl,rfl,by decide +kernel,rfl,by decide +kernel,by decide +kernel⟩
end
end Hv
namespace Mq
noncomputable def sm(f:Int→Int)(a:Int):Nat→Int
 | 0=>0
 | n+1=>sm f a n+f (a+n)
noncomputable def pr(fs:List (Int→Int))(a:Int)(n:Nat):Int:=fs.foldl (fun m f=>m*sm f a n) 1
end Mq
namespace Me
end Me
namespace Mq
end Mq
namespace Me
open Mq
theorem cuts_lens(ps:List Nat):∀ ws:List Int,ws.length=ps.sum→(Ma.cuts ps ws).map List.length=ps:=by
 induction ps with
 | nil=>intro ws _;rfl
 | cons p ps ih =>
  intro ws h
  rw [List.sum_cons] at h
  rw [Ma.cuts,List.map_cons,ih (ws.drop p) (by rw [List.length_drop];omega),List.length_take]
  congr 1
  omega
end Me
namespace Mg
open Me Mq
noncomputable def ns(g:Nat→Int):Nat→Int
 | 0=>0
 | n+1=>ns g n+g n
theorem ns_congr{g h:Nat→Int}:∀ {n:Nat},(∀ i,i<n→g i=h i)→ns g n=ns h n
 | 0,_=>rfl
 | n+1,e=>by rw [ns,ns,ns_congr (n:=n) fun i hi=>e i (by omega),e n (by omega)]
theorem ns_add(g:Nat→Int)(n:Nat):∀ m:Nat,ns g (n+m)=ns g n+ns (fun i=>g (n+i)) m
 | 0=>by simp [ns]
 | m+1=>by
  rw [← Nat.add_assoc,ns,ns,ns_add g n m]
  omega
theorem ns_plus(g h:Nat→Int):∀ n:Nat,ns (fun i=>g i+h i) n=ns g n+ns h n
 | 0=>rfl
 | n+1=>by simp only [ns];rw [ns_plus g h n];omega
theorem ns_mul(c:Int)(g:Nat→Int):∀ n:Nat,ns (fun i=>c*g i) n=c*ns g n
 | 0=>by simp [ns]
 | n+1=>by simp only [ns];rw [ns_mul c g n,Int.mul_add]
theorem ns_zero:∀ n:Nat,ns (fun _=>0) n=0
 | 0=>rfl
 | n+1=>by rw [ns,ns_zero n];rfl
theorem ns_two(g:Nat→Int)(b:Nat):∀ a:Nat,ns g (a*b)=ns (fun i=>ns (fun j=>g (i*b+j)) b) a
 | 0=>by simp [ns]
 | a+1=>by
  rw [Nat.succ_mul,ns_add,ns,ns_two g b a]
noncomputable def tg(f:List (Int×Int))(G:Int→Int):Int:=(f.map fun q=>q.2*G q.1).sum
noncomputable def ws1(b d:Nat)(row:List Int):Int:=(Ma.wts b d row.length row).sum
theorem dws_up(b d e L:Nat)(he:e<b):Ma.dws b (d*b+e) (L+1) (L+1)=Ma.dws b d L L++[e]:=by
 rw [Ma.dws_succ]
 congr 1
 ·unfold Ma.dws
  apply List.map_congr_left
  intro j hj
  have hj':=List.mem_range.mp hj
  have e1:L+1 - 1 - j=(L - 1 - j)+1:=by omega
  rw [e1,Nat.pow_succ',← Nat.div_div_eq_div_mul]
  have e2:(d*b+e) / b=d:=by
   rw [Nat.mul_comm d b,Nat.mul_add_div (by omega),Nat.div_eq_of_lt he,Nat.add_zero]
  rw [e2]
 ·have e1:L+1 - 1 - L=0:=by omega
  rw [e1,Nat.pow_zero,Nat.div_one,Nat.mul_comm d b,Nat.mul_add_mod,Nat.mod_eq_of_lt he]
theorem ws1_up(b d e:Nat)(row:List Int)(w:Int)(he:e<b):ws1 b (d*b+e) (row++[w])=ws1 b d row+e*w:=by
 unfold ws1 Ma.wts
 rw [List.length_append,List.length_singleton,dws_up b d e row.length he,List.zipWith_append (by rw [Ma.dws_len]),List.sum_append]
 simp
theorem dws_parts(b d m p L:Nat)(hb:0<b)(hm:m<b ^ L):Ma.dws b (d*b ^ L+m) (p+L) (p+L)=Ma.dws b d p p++Ma.dws b m L L:=by
 have gen:∀ i,i≤L→Ma.dws b (d*b ^ L+m) (p+L) (p+i)=Ma.dws b d p p++Ma.dws b m L i:=fun i=>by
  induction i with
  | zero =>
   intro _
   unfold Ma.dws
   simp only [Nat.add_zero,List.range_zero,List.map_nil,List.append_nil]
   apply List.map_congr_left
   intro j hj
   have hj':=List.mem_range.mp hj
   have e1:p+L - 1 - j=(p - 1 - j)+L:=by omega
   rw [e1,Nat.pow_add,Nat.mul_comm (b ^ (p - 1 - j)),← Nat.div_div_eq_div_mul]
   have e2:(d*b ^ L+m) / b ^ L=d:=by
    rw [Nat.mul_comm d,Nat.mul_add_div (Nat.pow_pos hb),Nat.div_eq_of_lt hm,Nat.add_zero]
   rw [e2]
  | succ i ih =>
   intro hi
   rw [← Nat.add_assoc,Ma.dws_succ,Ma.dws_succ,ih (by omega),List.append_assoc]
   congr 3
   have e1:p+L - 1 - (p+i)=L - 1 - i:=by omega
   rw [e1]
   have e3:b ^ L=b ^ (L - 1 - i)*b*b ^ i:=by
    rw [← Nat.pow_succ,← Nat.pow_add]
    congr 1
    omega
   have e4:d*b ^ L+m=b ^ (L - 1 - i)*(d*b ^ i*b)+m:=by
    rw [e3]
    congr 1
    rw [Nat.mul_assoc (b ^ (L - 1 - i)),← Nat.mul_assoc d,Nat.mul_comm d,Nat.mul_assoc (b ^ (L - 1 - i))]
    congr 1
    rw [Nat.mul_comm b,← Nat.mul_assoc]
   rw [e4,Nat.mul_add_div (Nat.pow_pos hb),Nat.add_comm,Nat.add_mul_mod_self_right]
 exact gen L (Nat.le_refl _)
noncomputable abbrev sumsN(b n:Nat)(ps:List Nat)(ws:List Int):List Int:=Ma.psums ps (Ma.wts b n ps.sum ws)
theorem sums_cons{b d m p:Nat}{ps:List Nat}{ws:List Int}(hb:0<b)(hm:m<b ^ ps.sum)(hw:ws.length=p+ps.sum):sumsN b (d*b ^ ps.sum+m) (p::ps) ws=ws1 b d (ws.take p)::sumsN b m ps (ws.drop p):=by
 have hl:(ws.take p).length=p:=by rw [List.length_take];omega
 have e:Ma.wts b (d*b ^ ps.sum+m) (p::ps).sum ws=Ma.wts b d p (ws.take p)++Ma.wts b m ps.sum (ws.drop p):=by
  unfold Ma.wts
  rw [List.sum_cons,dws_parts b d m p ps.sum hb hm]
  conv=>lhs;rw [← List.take_append_drop p ws]
  rw [List.zipWith_append (by rw [Ma.dws_len,hl])]
 show Ma.psums (p::ps) (Ma.wts b (d*b ^ ps.sum+m) (p::ps).sum ws)=_
 rw [e]
 have l1:(Ma.wts b d p (ws.take p)).length=p:=Ma.wts_len _ _ _ _ hl
 unfold Ma.psums
 rw [Ma.cuts,List.map_cons]
 congr 1
 ·rw [List.take_left' l1]
  unfold ws1
  rw [hl]
 ·rw [List.drop_left' l1]
  rfl
noncomputable def tr(b:Nat):List (List Int)→(List Int→Int)→Int
 | [],F=>F []
 | row::rows,F=>tg (waysW b row) fun x=>tr b rows fun v=>F (x::v)
noncomputable def fp(h:Int→Int)(v:List Int):Int:=v.foldl (fun m x=>m*h x) 1
noncomputable def iv(a:Int)(n:Nat)(x:Int):Int:=if a≤x∧x<a+n then 1 else 0
end Mg
namespace Mg
open Me Mq
noncomputable def sprd(v:List Int):Int:=Ma.maxL v - Ma.minL v
section
variable{b:Nat}{ps:List Nat}{ws:List Int}
end
noncomputable def cd(w:Nat→Bool)(k:Nat→Int):Nat→List (Int×Int)
 | 0=>[]
 | n+1=>if w n=true then addTo (cd w k n) (k n) 1 else cd w k n
structure Pos(f:List (Int×Int)):Prop where
 nd:(keys f).Nodup
 ps:∀ p∈f,1≤p.2
end Mg
namespace Mg
open Me Mq
section
variable{b:Nat}{ps:List Nat}{ws:List Int}
end
end Mg
namespace Mu
open Me Mg
noncomputable abbrev Tri:=List (Int×Int×Int)
noncomputable abbrev keyT(h:Tri):List Int:=h.map (·.1)
noncomputable def lookT(h:Tri)(k:Int):Option (Int×Int):=(h.find? fun q=>decide (q.1=k)).map (·.2)
noncomputable def putT(h:Tri)(k:Int)(p:Int×Int):Tri:=if (h.any fun q=>decide (q.1=k))=true then h.map fun q=>if q.1=k then (q.1,p) else q else h++[(k,p)]
noncomputable abbrev gT(h:Tri)(k:Int):Int×Int:=(lookT h k).getD (0,0)
noncomputable def addT(h:Tri)(k n v:Int):Tri:=putT h k ((gT h k).1+n,(gT h k).2+v)
noncomputable def TT(h:Tri)(A B:Int→Int):Int:=(h.map fun q=>q.2.1*A q.1+q.2.2*B q.1).sum
theorem TT_cons(p:Int×Int×Int)(h:Tri)(A B:Int→Int):TT (p::h) A B=p.2.1*A p.1+p.2.2*B p.1+TT h A B:=by simp [TT]
theorem TT_app(h g:Tri)(A B:Int→Int):TT (h++g) A B=TT h A B+TT g A B:=by simp [TT]
theorem look_hitT{h:Tri}{a:Int}{x:Int×Int}:lookT ((a,x)::h) a=some x:=by simp [lookT]
theorem look_missT{h:Tri}{a k:Int}{x:Int×Int}(e:a≠k):lookT ((a,x)::h) k=lookT h k:=by simp [lookT,e]
theorem repl_noneT{h:Tri}{k:Int}{p:Int×Int}(e:k∉keyT h):(h.map fun q=>if q.1=k then (q.1,p) else q)=h:=by
 induction h with
 | nil=>rfl
 | cons q r ih =>
  have h1:q.1≠k:=fun z=>e (by simp [keyT,z])
  have h2:k∉keyT r:=fun z=>e (by simp only [keyT,List.map_cons,List.mem_cons];exact .inr z)
  rw [List.map_cons,if_neg h1,ih h2]
theorem put_hitT{h:Tri}{a:Int}{x p:Int×Int}(e:a∉keyT h):putT ((a,x)::h) a p=(a,p)::h:=by
 unfold putT
 rw [if_pos (by simp),List.map_cons,if_pos rfl,repl_noneT e]
theorem put_missT{h:Tri}{a k:Int}{x p:Int×Int}(e:a≠k):putT ((a,x)::h) k p=(a,x)::putT h k p:=by
 unfold putT
 by_cases c:(h.any fun q=>decide (q.1=k))=true
 ·rw [if_pos (by simp only [List.any_cons,c,Bool.or_true]),if_pos c,List.map_cons,if_neg e]
 ·rw [if_neg (by simp only [List.any_cons,decide_eq_false e,Bool.false_or];exact c),if_neg c,List.cons_append]
theorem add_hitT{h:Tri}{a n v:Int}{x:Int×Int}(e:a∉keyT h):addT ((a,x)::h) a n v=(a,x.1+n,x.2+v)::h:=by
 unfold addT gT
 rw [look_hitT,put_hitT e]
 rfl
theorem add_missT{h:Tri}{a k n v:Int}{x:Int×Int}(e:a≠k):addT ((a,x)::h) k n v=(a,x)::addT h k n v:=by
 unfold addT gT
 rw [look_missT e,put_missT e]
theorem TT_add{k n v:Int}{A B:Int→Int}:∀ {h:Tri},(keyT h).Nodup→TT (addT h k n v) A B=TT h A B+(n*A k+v*B k)
 | [],_=>by simp [addT,putT,gT,lookT,TT]
 | (a,x)::h,nd=>by
  have nd1:a∉keyT h:=(List.nodup_cons.mp nd).1
  have nd2:(keyT h).Nodup:=(List.nodup_cons.mp nd).2
  by_cases e:a=k
  ·subst e
   rw [add_hitT nd1,TT_cons,TT_cons]
   simp only
   rw [Int.add_mul,Int.add_mul]
   omega
  ·rw [add_missT e,TT_cons,TT_cons,TT_add nd2]
   omega
theorem keys_replT(h:Tri)(k:Int)(p:Int×Int):keyT (h.map fun q=>if q.1=k then (q.1,p) else q)=keyT h:=by
 simp only [keyT,List.map_map]
 exact List.map_congr_left fun q _=>by simp only [Function.comp];split <;> rfl
theorem keys_putT{h:Tri}{k:Int}{p:Int×Int}:keyT (putT h k p)=if k∈keyT h then keyT h else keyT h++[k]:=by
 unfold putT
 by_cases c:(h.any fun q=>decide (q.1=k))=true
 ·rw [if_pos c,keys_replT,if_pos]
  obtain ⟨q,hq,e⟩:=List.any_eq_true.mp c
  exact List.mem_map.mpr ⟨q,hq,of_decide_eq_true e⟩
 ·rw [if_neg c,if_neg,keyT,List.map_append]
  ·rfl
  ·intro z
   obtain ⟨q,hq,e⟩:=List.mem_map.mp z
   exact c (List.any_eq_true.mpr ⟨q,hq,decide_eq_true e⟩)
structure OkT(h:Tri)(m:Int):Prop where
 nd:(keyT h).Nodup
 bd:∀ x∈keyT h,-m≤x∧x≤m
theorem OkT.nil{m:Int}:OkT [] m:=⟨by simp [keyT],fun x h=>by simp [keyT] at h⟩
theorem OkT.put{h:Tri}{m k:Int}{p:Int×Int}(o:OkT h m)(hk : -m≤k∧k≤m):OkT (putT h k p) m:=by
 refine ⟨?_,?_⟩
 ·rw [keys_putT]
  split
  ·exact o.nd
  ·rename_i c
   exact List.nodup_append.mpr ⟨o.nd,by simp,fun a ha b hb z=>c (by simp at hb;rw [← hb,← z];exact ha)⟩
 ·rw [keys_putT]
  split
  ·exact o.bd
  ·intro x hx
   rcases List.mem_append.mp hx with hx | hx
   ·exact o.bd x hx
   ·simp at hx;rw [hx];exact hk
theorem OkT.add{h:Tri}{m k n v:Int}(o:OkT h m)(hk : -m≤k∧k≤m):OkT (addT h k n v) m:=o.put hk
theorem OkT.len{h:Tri}{m:Nat}(o:OkT h m):h.length≤2*m+1:=by
 have e:keys (h.map fun q=>(q.1,q.2.1))=keyT h:=by simp only [keys,keyT,List.map_map];rfl
 have:=Ok.len (f:=h.map fun q=>(q.1,q.2.1)) (m:=m) ⟨by rw [e];exact o.nd,by rw [e];exact o.bd⟩
 simpa using this
theorem look_memT:∀ {h:Tri} {p:Int×Int×Int},(keyT h).Nodup→p∈h→lookT h p.1=some p.2
 | (a,x)::h,p,nd,hp=>by
  rcases List.mem_cons.mp hp with e | hp
  ·subst e;exact look_hitT
  ·have nd1:a∉keyT h:=(List.nodup_cons.mp nd).1
   have ne:a≠p.1:=fun z=>nd1 (by rw [z];exact List.mem_map.mpr ⟨p,hp,rfl⟩)
   rw [look_missT ne]
   exact look_memT (List.nodup_cons.mp nd).2 hp
theorem look_noneT{h:Tri}{t:Int}(e:t∉keyT h):lookT h t=none:=by
 unfold lookT
 rw [List.find?_eq_none.mpr]
 ·rfl
 ·intro q hq z
  exact e (List.mem_map.mpr ⟨q,hq,of_decide_eq_true z⟩)
theorem TT_at{t:Int}(x y:Int):∀ {h:Tri},(keyT h).Nodup→TT h (fun s=>if s=t then x else 0) (fun s=>if s=t then y else 0)=(gT h t).1*x+(gT h t).2*y
 | [],_=>by simp [TT,gT,lookT]
 | (a,p)::h,nd=>by
  have nd1:a∉keyT h:=(List.nodup_cons.mp nd).1
  have nd2:(keyT h).Nodup:=(List.nodup_cons.mp nd).2
  have ih:=TT_at (t:=t) x y nd2
  rw [TT_cons,ih]
  by_cases e:a=t
  ·subst e
   have h0:gT h a=(0,0):=by unfold gT;rw [look_noneT nd1];rfl
   rw [h0]
   unfold gT
   rw [look_hitT]
   simp
  ·unfold gT
   rw [look_missT e]
   simp [e]
theorem TT_congr{h:Tri}{A A' B B':Int→Int}(e:∀ x,A x=A' x)(e':∀ x,B x=B' x):TT h A B=TT h A' B':=by
 have h1:A=A':=funext e
 have h2:B=B':=funext e'
 rw [h1,h2]
structure Rep(h:Tri)(m:Int)(lo n:Nat)(s c:Nat→Int):Prop where
 ok:OkT h m
 eq:∀ A B:Int→Int,TT h A B=ns (fun i=>c (lo+i)*(A (s (lo+i))+((lo+i:Nat):Int)*B (s (lo+i)))) n
theorem ns_nn{g:Nat→Int}:∀ {n:Nat},(∀ i,i<n→0≤g i)→0≤ns g n
 | 0,_=>Int.le_refl _
 | n+1,h=>by
  rw [ns]
  have:=ns_nn (n:=n) fun i hi=>h i (by omega)
  have:=h n (by omega)
  omega
theorem ns_le{g h:Nat→Int}:∀ {n:Nat},(∀ i,i<n→g i≤h i)→ns g n≤ns h n
 | 0,_=>Int.le_refl _
 | n+1,e=>by
  rw [ns,ns]
  have:=ns_le (n:=n) fun i hi=>e i (by omega)
  have:=e n (by omega)
  omega
theorem ns_const(x:Int):∀ n:Nat,ns (fun _=>x) n=n*x
 | 0=>by simp [ns]
 | n+1=>by rw [ns,ns_const x n];push_cast;rw [Int.add_mul];omega
theorem Rep.ways{h:Tri}{m:Int}{lo n:Nat}{s c:Nat→Int}(R:Rep h m lo n s c)(t:Int):(gT h t).1=ns (fun i=>if s (lo+i)=t then c (lo+i) else 0) n:=by
 have e:=R.eq (fun x=>if x=t then 1 else 0) (fun x=>if x=t then 0 else 0)
 rw [TT_at 1 0 R.ok.nd] at e
 rw [Int.mul_one,Int.mul_zero,Int.add_zero] at e
 rw [e]
 refine ns_congr fun i _=>?_
 by_cases z:s (lo+i)=t <;> simp [z]
theorem Rep.worth{h:Tri}{m:Int}{lo n:Nat}{s c:Nat→Int}(R:Rep h m lo n s c)(t:Int):(gT h t).2=ns (fun i=>if s (lo+i)=t then c (lo+i)*((lo+i:Nat):Int) else 0) n:=by
 have e:=R.eq (fun x=>if x=t then 0 else 0) (fun x=>if x=t then 1 else 0)
 rw [TT_at 0 1 R.ok.nd] at e
 rw [Int.mul_one,Int.mul_zero,Int.zero_add] at e
 rw [e]
 refine ns_congr fun i _=>?_
 by_cases z:s (lo+i)=t <;> simp [z]
theorem Rep.ways_in{h:Tri}{m:Int}{lo n:Nat}{s c:Nat→Int}(R:Rep h m lo n s c)(hc:∀ i,0≤c i∧c i≤1)(t:Int):0≤(gT h t).1∧(gT h t).1≤n:=by
 rw [R.ways t]
 refine ⟨ns_nn fun i _=>?_,?_⟩
 ·split
  ·exact (hc _).1
  ·exact Int.le_refl _
 ·have h1:=ns_const 1 n
  rw [Int.mul_one] at h1
  rw [← h1]
  refine ns_le fun i _=>?_
  split
  ·exact (hc _).2
  ·decide
theorem Rep.worth_in{h:Tri}{m:Int}{lo n:Nat}{s c:Nat→Int}(R:Rep h m lo n s c)(hc:∀ i,0≤c i∧c i≤1)(t:Int):0≤(gT h t).2∧(gT h t).2≤n*((lo+n:Nat):Int):=by
 rw [R.worth t]
 have hp:∀ i:Nat,i<n→0≤c (lo+i)*((lo+i:Nat):Int)∧c (lo+i)*((lo+i:Nat):Int)≤((lo+n:Nat):Int):=fun i hi=>by
  obtain ⟨h1,h2⟩:=hc (lo+i)
  have h3:(0:Int)≤((lo+i:Nat):Int):=by omega
  refine ⟨Int.mul_nonneg h1 h3,?_⟩
  have h4:=Int.mul_le_mul_of_nonneg_right h2 h3
  omega
 refine ⟨ns_nn fun i hi=>?_,?_⟩
 ·split
  ·exact (hp i hi).1
  ·exact Int.le_refl _
 ·rw [← ns_const]
  refine ns_le fun i hi=>?_
  split
  ·exact (hp i hi).2
  ·omega
end Mu
namespace Mu
open Me Mg
theorem ns_swap(g:Nat→Nat→Int)(m:Nat):∀ n:Nat,ns (fun i=>ns (fun j=>g i j) m) n=ns (fun j=>ns (fun i=>g i j) n) m
 | 0=>by
  have e:ns (fun j=>ns (fun i=>g i j) 0) m=ns (fun _=>0) m:=rfl
  rw [e,ns_zero]
  rfl
 | n+1=>by
  have e:ns (fun j=>ns (fun i=>g i j) (n+1)) m=ns (fun j=>ns (fun i=>g i j) n+g n j) m:=rfl
  rw [e,ns_plus,← ns_swap g m n]
  rfl
theorem ws1_parts{b d i:Nat}{r1 r2:List Int}(hb:0<b)(hi:i<b ^ r2.length):ws1 b (d*b ^ r2.length+i) (r1++r2)=ws1 b d r1+ws1 b i r2:=by
 unfold ws1 Ma.wts
 rw [List.length_append,dws_parts b d i r1.length r2.length hb hi,List.zipWith_append (by rw [Ma.dws_len]),List.sum_append]
theorem ws1_one{b d:Nat}{w:Int}(hd:d<b):ws1 b d [w]=d*w:=by
 simp [ws1,Ma.wts,Ma.dws,Nat.mod_eq_of_lt hd]
theorem ws1_head{b d i:Nat}{w:Int}{r:List Int}(hd:d<b)(hi:i<b ^ r.length):ws1 b (d*b ^ r.length+i) (w::r)=d*w+ws1 b i r:=by
 have:=ws1_parts (b:=b) (d:=d) (i:=i) (r1:=[w]) (r2:=r) (by omega) hi
 rw [ws1_one hd] at this
 exact this
theorem Rep.ahead{h h':Tri}{m m':Int}{b:Nat}{w:Int}{r:List Int}(R:Rep h m 0 (b ^ r.length) (fun n=>ws1 b n r) fun _=>1)(o:OkT h' m')
  (e:∀ A B:Int→Int,TT h' A B=TT h (fun t=>ns (fun d=>A (t+(d:Int)*w)+(d:Int)*((b ^ r.length:Nat):Int)*B (t+(d:Int)*w)) b) fun t=>ns (fun d=>B (t+(d:Int)*w)) b) :
  Rep h' m' 0 (b ^ (w::r).length) (fun n=>ws1 b n (w::r)) fun _=>1:=by
 refine ⟨o,fun A B=>?_⟩
 rw [e,R.eq,List.length_cons,Nat.pow_succ,Nat.mul_comm,ns_two]
 have e1:∀ i,i<b ^ r.length→1*(ns (fun d=>A (ws1 b (0+i) r+(d:Int)*w)+(d:Int)*((b ^ r.length:Nat):Int)*B (ws1 b (0+i) r+(d:Int)*w)) b+((0+i:Nat):Int)*ns (fun d=>B (ws1 b (0+i) r+(d:Int)*w)) b)=ns (fun d=>A (ws1 b i r+(d:Int)*w)+(((d*b ^ r.length+i:Nat):Int))*B (ws1 b i r+(d:Int)*w)) b:=fun i _=>by
  rw [Nat.zero_add,Int.one_mul,← ns_mul,← ns_plus]
  refine ns_congr fun d _=>?_
  push_cast
  rw [Int.add_mul ((d:Int)*_)]
  omega
 rw [ns_congr e1,ns_swap]
 refine ns_congr fun d hd=>ns_congr fun i hi=>?_
 rw [Nat.zero_add,Int.one_mul,ws1_head hd hi,Int.add_comm ((d:Int)*w)]
theorem Rep.start{b:Nat}{m:Int}(hm:0≤m):Rep [(0,1,0)] m 0 (b ^ ([]:List Int).length) (fun n=>ws1 b n []) fun _=>1:=by
 refine ⟨⟨by simp [keyT],fun x hx=>by simp [keyT] at hx;omega⟩,fun A B=>?_⟩
 simp [TT,ns,ws1,Ma.wts]
theorem Rep.more{h h' t:Tri}{m m' m2:Int}{b q lo n:Nat}{r1 r2:List Int}(hb:0<b)(R:Rep h m lo n (fun n=>ws1 b n (r1++r2)) fun _=>1)(hlo:lo+n=q*b ^ r2.length)(RT:Rep t m2 0 (b ^ r2.length) (fun n=>ws1 b n r2) fun _=>1)(o:OkT h' m')
  (e:∀ A B:Int→Int,TT h' A B=TT h A B+TT t (fun x=>A (ws1 b q r1+x)+((q*b ^ r2.length:Nat):Int)*B (ws1 b q r1+x)) fun x=>B (ws1 b q r1+x)) :
  Rep h' m' lo (n+b ^ r2.length) (fun n=>ws1 b n (r1++r2)) fun _=>1:=by
 refine ⟨o,fun A B=>?_⟩
 rw [e,R.eq,RT.eq,ns_add]
 congr 1
 refine ns_congr fun i hi=>?_
 have e1:lo+(n+i)=q*b ^ r2.length+i:=by omega
 simp only [e1,Nat.zero_add,Int.one_mul]
 rw [ws1_parts hb hi]
 push_cast
 rw [Int.add_mul ((q:Int)*_)]
 omega
end Mu
namespace Mu
open Me Mg
theorem TT_put{h:Tri}{k:Int}{p:Int×Int}{A B:Int→Int}(e:k∉keyT h):TT (putT h k p) A B=TT h A B+(p.1*A k+p.2*B k):=by
 unfold putT
 rw [if_neg,TT_app]
 ·simp [TT]
 ·intro z
  obtain ⟨q,hq,e2⟩:=List.any_eq_true.mp z
  exact e (List.mem_map.mpr ⟨q,hq,of_decide_eq_true e2⟩)
theorem TT_take{h:Tri}{i:Nat}{p:Int×Int×Int}{A B:Int→Int}(e:h[i]?=some p):TT (h.take (i+1)) A B=TT (h.take i) A B+(p.2.1*A p.1+p.2.2*B p.1):=by
 have:h.take (i+1)=h.take i++[p]:=by rw [List.take_add_one,e];rfl
 rw [this,TT_app]
 simp [TT]
theorem ns_pairs{lo n lo2 n2 st:Nat}(g:Nat→Int)(hr:(n=1)∨(lo2=0∧n2=st)):ns (fun i=>ns (fun j=>g ((lo+i)*st+(lo2+j))) n2) n=ns (fun i=>g (lo*st+lo2+i)) (n*n2):=by
 rcases hr with rfl | ⟨rfl,rfl⟩
 ·rw [Nat.one_mul]
  simp only [ns,Int.zero_add,Nat.add_zero]
  exact ns_congr fun j _=>by rw [Nat.add_assoc]
 ·rw [ns_two]
  refine ns_congr fun i _=>ns_congr fun j _=>?_
  rw [Nat.zero_add,Nat.add_mul,Nat.add_zero,Nat.add_assoc]
theorem Rep.join{h g k:Tri}{m m2 m':Int}{lo n lo2 n2 st:Nat}{s c s2:Nat→Int}(R:Rep h m lo n s c)(R2:Rep g m2 lo2 n2 s2 fun _=>1)(hst:lo2+n2≤st)(hr:(n=1)∨(lo2=0∧n2=st))(o:OkT k m')
  (e:∀ A B:Int→Int,TT k A B=TT h (fun t=>(gT g t).1*A t+(gT g t).2*B t) fun t=>(gT g t).1*(st:Int)*B t) :
  Rep k m' (lo*st+lo2) (n*n2) (fun x=>s (x / st)) (fun x=>c (x / st)*if s2 (x % st)=s (x / st) then 1 else 0):=by
 refine ⟨o,fun A B=>?_⟩
 rw [e,R.eq,← ns_pairs (fun x=>c (x / st)*(if s2 (x % st)=s (x / st) then 1 else 0)*(A (s (x / st))+(x:Int)*B (s (x / st)))) hr]
 refine ns_congr fun i hi=>?_
 rw [R2.ways,R2.worth]
 have e1:∀ j,j<n2→c (((lo+i)*st+(lo2+j)) / st)*(if s2 (((lo+i)*st+(lo2+j)) % st)=s (((lo+i)*st+(lo2+j)) / st) then 1 else 0)*(A (s (((lo+i)*st+(lo2+j)) / st))+(((lo+i)*st+(lo2+j):Nat):Int)*B (s (((lo+i)*st+(lo2+j)) / st)))
   = c (lo+i)*((if s2 (lo2+j)=s (lo+i) then 1 else 0)*(A (s (lo+i))+((lo+i:Nat):Int)*(st:Int)*B (s (lo+i)))+(if s2 (lo2+j)=s (lo+i) then 1*((lo2+j:Nat):Int) else 0)*B (s (lo+i))):=fun j hj=>by
  have hlt:lo2+j<st:=by omega
  have q1:((lo+i)*st+(lo2+j)) / st=lo+i:=by
   rw [Nat.mul_comm,Nat.mul_add_div (by omega),Nat.div_eq_of_lt hlt,Nat.add_zero]
  have q2:((lo+i)*st+(lo2+j)) % st=lo2+j:=by
   rw [Nat.mul_comm,Nat.mul_add_mod,Nat.mod_eq_of_lt hlt]
  rw [q1,q2]
  by_cases z:s2 (lo2+j)=s (lo+i)
  ·rw [if_pos z,if_pos z]
   push_cast
   rw [Int.mul_assoc]
   congr 1
   rw [Int.one_mul,Int.one_mul,Int.one_mul,Int.add_mul (((lo:Int)+i)*st)]
   omega
  ·rw [if_neg z,if_neg z]
   simp
 rw [ns_congr e1,ns_mul,ns_plus]
 congr 1
 have f1:∀ (X:Int) (u:Nat→Int),ns (fun j=>u j*X) n2=ns u n2*X:=fun X u=>by
  have:(fun j=>u j*X)=fun j=>X*u j:=funext fun j=>Int.mul_comm _ _
  rw [this,ns_mul,Int.mul_comm]
 rw [f1,f1]
 generalize ns (fun j=>if s2 (lo2+j)=s (lo+i) then 1 else 0) n2=W
 generalize ns (fun j=>if s2 (lo2+j)=s (lo+i) then 1*((lo2+j:Nat):Int) else 0) n2=V
 have f2:((lo+i:Nat):Int)*(W*(st:Int)*B (s (lo+i)))=W*(((lo+i:Nat):Int)*(st:Int)*B (s (lo+i))):=by
  rw [Int.mul_assoc W,← Int.mul_assoc,Int.mul_comm _ W,Int.mul_assoc W,← Int.mul_assoc ((lo+i:Nat):Int)]
 rw [f2,Int.mul_add]
 omega
theorem Rep.whole{h:Tri}{m:Int}{lo n:Nat}{s c:Nat→Int}(R:Rep h m lo n s c):(h.map fun q=>q.2.2).sum=ns (fun i=>c (lo+i)*((lo+i:Nat):Int)) n:=by
 have e:=R.eq (fun _=>0) (fun _=>1)
 have e1:TT h (fun _=>0) (fun _=>1)=(h.map fun q=>q.2.2).sum:=by
  unfold TT
  congr 1
  exact List.map_congr_left fun q _=>by simp
 rw [← e1,e]
 exact ns_congr fun i _=>by simp
end Mu
namespace Hv
open PySem L2
noncomputable abbrev PT(H:Hp)(kvs:List (Key×V))(h:Mu.Tri):Prop:=Paired (fun kv p=>kv.1=Sum.inl p.1∧∃ t,kv.2=V.ref t∧H t=some (.tup [.int p.2.1,.int p.2.2])) kvs h
theorem PT.tups{H H':Hp}{kvs:List (Key×V)}{f:Mu.Tri}(h:PT H kvs f)(k:∀ t xs,H t=some (.tup xs)→H' t=some (.tup xs)):PT H' kvs f:=L2.Paired.mapP h fun _ _ ⟨e,t,e2,e3⟩=>⟨e,t,e2,k _ _ e3⟩
theorem PT.keep{H H':Hp}{kvs:List (Key×V)}{f:Mu.Tri}(h:PT H kvs f)(s:Same H H'):PT H' kvs f:=PT.tups h fun _ _ e=>s _ _ e
theorem PT.kp{H H':Hp}{d:Addr}{o:HO}{kvs:List (Key×V)}{f:Mu.Tri}(h:PT H kvs f)(k:Kp [d] H H')(hd:H d=some o)(ho:∀ xs,o≠.tup xs):PT H' kvs f:=PT.tups h fun t xs e=>k _ _ e fun z=>by
 have z':t=d:=by simpa using z
 rw [z',hd] at e
 exact ho _ (Option.some.inj e)
theorem PT.len{H:Hp}:∀ {kvs:List (Key×V)} {f:Mu.Tri},PT H kvs f→kvs.length=f.length
 | _,_,.nil=>rfl
 | _,_,.cons _ t=>congrArg (·+1) (PT.len t)
theorem PT.val{H:Hp}(k:Int):∀ {kvs:List (Key×V)} {f:Mu.Tri},PT H kvs f→(valV kvs (Sum.inl k)=none∧Mu.lookT f k=none)∨∃ n t,Mu.lookT f k=some n∧valV kvs (Sum.inl k)=some (.ref t)∧H t=some (.tup [.int n.1,.int n.2])
 | _,_,.nil=>.inl ⟨rfl,rfl⟩
 | kv::kvs,p::f,.cons ⟨e,t,e2,e3⟩ r=>by
  by_cases h:p.1=k
  ·refine .inr ⟨p.2,t,?_,?_,e3⟩
   ·simp [Mu.lookT,List.find?_cons,h]
   ·rw [valV_pos (by rw [e,h]),e2]
  ·have h1:valV (kv::kvs) (Sum.inl k)=valV kvs (Sum.inl k):=valV_neg (by rw [e];exact fun z=>h (Sum.inl.inj z))
   have h2:Mu.lookT (p::f) k=Mu.lookT f k:=by simp [Mu.lookT,List.find?_cons,h]
   rw [h1,h2]
   exact PT.val k r
theorem PT.any{H:Hp}(k:Int):∀ {kvs:List (Key×V)} {f:Mu.Tri},PT H kvs f→(kvs.any fun kv=>decide (kv.1=Sum.inl k))=f.any fun p=>decide (p.1=k)
 | _,_,.nil=>rfl
 | kv::kvs,p::f,.cons ⟨e,_⟩ r=>by
  rw [List.any_cons,List.any_cons,PT.any k r]
  congr 1
  rw [e]
  by_cases h:p.1=k
  ·simp [h]
  ·have h':¬ (Sum.inl p.1:Key)=Sum.inl k:=fun z=>h (Sum.inl.inj z)
   simp [h,h']
theorem PT.repl{H:Hp}{k:Int}{n:Int×Int}{t:Addr}(ht:H t=some (.tup [.int n.1,.int n.2])):∀ {kvs:List (Key×V)} {f:Mu.Tri},PT H kvs f→PT H (kvs.map fun kv=>if kv.1=Sum.inl k then (kv.1,V.ref t) else kv) (f.map fun p=>if p.1=k then (p.1,n) else p)
 | _,_,.nil=>.nil
 | kv::kvs,p::f,.cons ⟨e,u,e2,e3⟩ r=>by
  rw [List.map_cons,List.map_cons]
  refine .cons ?_ (PT.repl ht r)
  by_cases h:p.1=k
  ·rw [if_pos h,if_pos (by rw [e,h])]
   exact ⟨e,t,rfl,ht⟩
  ·rw [if_neg h,if_neg (by rw [e];exact fun z=>h (Sum.inl.inj z))]
   exact ⟨e,u,e2,e3⟩
theorem PT.put{H:Hp}{k:Int}{n:Int×Int}{t:Addr}{kvs:List (Key×V)}{f:Mu.Tri}(h:PT H kvs f)(ht:H t=some (.tup [.int n.1,.int n.2])):PT H (putK kvs (Sum.inl k) (.ref t)) (Mu.putT f k n):=by
 unfold putK Mu.putT
 rw [PT.any k h]
 split
 ·exact PT.repl ht h
 ·exact Paired.snoc h ⟨rfl,t,rfl,ht⟩
noncomputable def spAddT:Sp:=fun vs H Q _=>∃ (d:Addr) (kvs:List (Key×V)) (f:Mu.Tri) (t n v:Int),vs=[.ref d,.int t,.int n,.int v]∧H d=some (.dK kvs)∧PT H kvs f∧f.length≤100000∧
 ∀ (kvs':List (Key×V)) (H':Hp),H' d=some (.dK kvs')→PT H' kvs' (Mu.addT f t n v)→Kp [d] H H'→Q .non H'
section
variable{P:Program}{w:World}{K:PySem.W.Frag}{mg:Str→Option Value}{base:Heap}
theorem ok_addT{f:Addr}{fd:FuncData}(F:Fun K "add_rows" "add_rows" sAddRows f fd):FnOk P w K mg base CX0 1 f fd ["by_sums","total","ways","worth"] spAddT:=by
 refine F.ok scAddRows (fun vs H Q E h=>?_) (fun cdv A outer s H vs Q E hr h=>?_)
 ·obtain ⟨d,kvs,f,t,n,v,rfl,_⟩:=h;rfl
 ·obtain ⟨d,kvs,f,t,n,v,rfl,hd,pd,hl,k⟩:=h
  have nd:=scAddRows.nd
  have hu:=hu_of hr
  refine ⟨_,pss_cons (ps_set (i:=4) nd rfl (Or.inl rfl) (pe_dget2 hu (pv 0) (pv 1) (pe_tup (pa_cons pe_int (pa_cons pe_int pa_nil))) ⟨rfl,rfl,rfl,rfl⟩))
   (pss_one (ps_dput hu (pv 0) (pv 1) (pe_tup (pa_cons (pe_op op_add (ixt (pv 4) pe_int) (pv 2)) (pa_cons (pe_op op_add (ixt (pv 4) pe_int) (pv 3)) pa_nil))) rfl)),?_⟩
  refine ⟨_,rfl,d,rfl,.inl ⟨_,.inl hd⟩,_,rfl,sz (by simp),fun p hp=>?_⟩
  have s1:=same_upd (o:=.tup [.int 0,.int 0]) hp
  have u1:(upd H p (.tup [.int 0,.int 0])) p=some (.tup [.int 0,.int 0]):=upd_same
  generalize upd H p (.tup [.int 0,.int 0])=H1 at s1 u1⊢
  have hd1:=s1 _ _ hd
  have pd1:=pd.keep s1
  have key:∃ x,(valV kvs (Sum.inl t)).getD (.ref p)=.ref x∧H1 x=some (.tup [.int (Mu.gT f t).1,.int (Mu.gT f t).2]):=by
   unfold Mu.gT
   rcases PT.val t pd1 with ⟨e1,e2⟩ | ⟨m,x,e1,e2,e3⟩
   ·rw [e1,e2];exact ⟨p,rfl,u1⟩
   ·rw [e1,e2];exact ⟨x,rfl,e3⟩
  obtain ⟨x,ex,hx⟩:=key
  refine ⟨valV kvs (Sum.inl t),.inl ⟨kvs,Sum.inl t,.inl hd1,rfl,rfl⟩,?_⟩
  rw [ex]
  refine ⟨_,rfl,x,_,0,_,rfl,rfl,SqT.of hx,rfl,_,rfl,_,_,rfl,rfl,?_⟩
  refine ⟨_,rfl,x,_,1,_,rfl,rfl,SqT.of hx,rfl,_,rfl,_,_,rfl,rfl,sz (by simp),fun q hq=>?_⟩
  have s2:=same_upd (o:=.tup [.int ((Mu.gT f t).1+n),.int ((Mu.gT f t).2+v)]) hq
  have u2:(upd H1 q (.tup [.int ((Mu.gT f t).1+n),.int ((Mu.gT f t).2+v)])) q=some (.tup [.int ((Mu.gT f t).1+n),.int ((Mu.gT f t).2+v)]):=upd_same
  have hd2:=s2 _ _ hd1
  have pd2:=PT.keep pd1 s2
  have kp2:Kp [d] H (upd H1 q (.tup [.int ((Mu.gT f t).1+n),.int ((Mu.gT f t).2+v)])):=Kp.of (s1.trans s2)
  have e2:(upd H1 q (.tup [(fun i j=>V.int (i+j)) (Mu.gT f t).1 n,(fun i j=>V.int (i+j)) (Mu.gT f t).2 v]))=upd H1 q (.tup [.int ((Mu.gT f t).1+n),.int ((Mu.gT f t).2+v)]):=rfl
  rw [e2]
  generalize upd H1 q (.tup [.int ((Mu.gT f t).1+n),.int ((Mu.gT f t).2+v)])=H2 at s2 u2 hd2 pd2 kp2⊢
  refine ⟨_,rfl,_,rfl,d,_,rfl,DPut.k (k:=Sum.inl t) hd2 (szl (by rw [PT.len pd];omega)),?_⟩
  have kp3:=kp_upd (o:=.dK (putK kvs (Sum.inl t) (.ref q))) kp2 (.inl (show d∈[d] by simp))
  exact k _ _ upd_same (PT.kp (PT.put (n:=((Mu.gT f t).1+n,(Mu.gT f t).2+v)) pd2 u2) (kp_upd Kp.refl (.inl (by simp))) hd2 (fun xs z=>nomatch z)) kp3
end
end Hv
namespace Hv
open PySem L2
noncomputable abbrev RepA(h:Mu.Tri)(m:Int)(b:Nat)(r:List Int):Prop:=Mu.Rep h m 0 (b ^ r.length) (fun n=>Mg.ws1 b n r) fun _=>1
theorem one01:∀ i:Nat,(0:Int)≤(fun _:Nat=>(1:Int)) i∧(fun _:Nat=>(1:Int)) i≤1:=fun _=>⟨Int.zero_le_ofNat 1,Int.le_refl 1⟩
theorem RepA.ent{h:Mu.Tri}{m:Int}{b:Nat}{r:List Int}(R:RepA h m b r)(hb:b≤16)(hr:r.length≤6){p:Int×Int×Int}(hp:p∈h):(0≤p.2.1∧p.2.1≤16777216)∧(0≤p.2.2∧p.2.2≤16777216*16777216):=by
 have e:Mu.gT h p.1=p.2:=by unfold Mu.gT;rw [Mu.look_memT R.ok.nd hp];rfl
 have h1:=R.ways_in one01 p.1
 have h2:=R.worth_in one01 p.1
 rw [e] at h1 h2
 have hpw:b ^ r.length≤16 ^ 6:=Nat.le_trans (Nat.pow_le_pow_left hb _) (Nat.pow_le_pow_right (by decide) hr)
 have h16:(16:Nat) ^ 6=16777216:=by decide
 have hk:((b ^ r.length:Nat):Int)≤16777216:=by omega
 refine ⟨⟨h1.1,by omega⟩,h2.1,Int.le_trans h2.2 ?_⟩
 rw [Nat.zero_add]
 exact Int.mul_le_mul hk hk (by omega) (by decide)
noncomputable def spAheadT:Sp:=fun vs H Q _=>∃ (a:Addr) (kvs:List (Key×V)) (h:Mu.Tri) (b:Nat) (w:Int) (r:List Int) (m:Nat),vs=[.ref a,.int b,.int w,.int ((b ^ r.length:Nat):Int)]∧H a=some (.dK kvs)∧PT H kvs h∧RepA h m b r∧m≤1000∧b≤16∧(-9≤w∧w≤9)∧r.length≤6∧
 ∀ (p:Addr) (kvs':List (Key×V)) (h':Mu.Tri) (H':Hp),H p=none→Same H H'→H' p=some (.dK kvs')→PT H' kvs' h'→RepA h' ((m:Int)+135) b (w::r)→Q (.ref p) H'
noncomputable def fA(b:Nat)(w:Int)(st:Int)(A B:Int→Int)(n:Nat)(t:Int):Int:=Mg.ns (fun d=>A (t+(d:Int)*w)+(d:Int)*st*B (t+(d:Int)*w)) n
noncomputable def fB(w:Int)(B:Int→Int)(n:Nat)(t:Int):Int:=Mg.ns (fun d=>B (t+(d:Int)*w)) n
theorem f_step(n v x y ds N V A B:Int):N+(n*x+v*y)+(n*A+(v+ds*n)*B)=N+(n*(x+(A+ds*B))+v*(y+B)):=by
 have e1:ds*n*B=n*(ds*B):=by rw [Int.mul_comm ds n,Int.mul_assoc]
 rw [Int.add_mul,e1,Int.mul_add,Int.mul_add,Int.mul_add]
 omega
section
variable{P:Program}{w:World}{K:PySem.W.Frag}{mg:Str→Option Value}{base:Heap}
theorem ok_aheadT{f:Addr}{fd:FuncData}(F:Fun K "with_figure_ahead" "with_figure_ahead" sAhead f fd)(T:Txt mg)(DA:Def P w K mg base 1 "add_rows" ["by_sums","total","ways","worth"] spAddT):FnOk P w K mg base CX0 2 f fd ["tail","base","weight","stand"] spAheadT:=by
 refine F.ok scAhead (fun vs H Q E h=>?_) (fun cdv A outer s H vs Q E hr h=>?_)
 ·obtain ⟨a,kvs,f,b,wt,r,m,rfl,_⟩:=h;rfl
 ·obtain ⟨a,kvs,f,b,wt,r,m,rfl,ha,pd,R,hm,hb,hw,hr6,k⟩:=h
  have nd:=scAhead.nd
  have hu:=hu_of hr
  have hpw:b ^ r.length≤16 ^ 6:=Nat.le_trans (Nat.pow_le_pow_left hb _) (Nat.pow_le_pow_right (by decide) hr6)
  have h16:(16:Nat) ^ 6=16777216:=by decide
  have hst:(0:Int)≤((b ^ r.length:Nat):Int)∧((b ^ r.length:Nat):Int)≤268435456:=by omega
  refine ⟨_,pss_cons (ps_set (i:=4) nd rfl (Or.inl rfl) pe_dnewK)
   (pss_cons (ps_for PassesOwn.never rfl (pi_dict (pv 0)) (pg_name (i:=5) nd rfl (Or.inl rfl))
    (pss_cons (ps_set (i:=6) nd rfl (Or.inl rfl) (ixt (pe_dget hu (pv 0) (pv 5) (fun _ _=>rfl)) pe_int))
    (pss_cons (ps_set (i:=7) nd rfl (Or.inl rfl) (ixt (pe_dget hu (pv 0) (pv 5) (fun _ _=>rfl)) pe_int))
    (pss_one (ps_for PassesOwn.never rfl (pi_range1 (by rfl) T.range (pa_cons (pv 1) pa_nil)) (pg_name (i:=8) nd rfl (Or.inl rfl))
     (pss_one (ps_expr (pe_fn DA hr (by rfl) (pa_cons (pv 4) (pa_cons (pe_op op_add (pv 5) (pe_op op_mul (pv 8) (pv 2))) (pa_cons (pv 6) (pa_cons (pe_op op_add (pv 7) (pe_op op_mul (pe_op op_mul (pv 8) (pv 3)) (pv 6))) pa_nil))))))))))))
   (pss_thaw (pss_one (ps_ret (pv 4))))),?_⟩
  intro l hl
  have nal:a≠l:=ne_of_none ha hl
  generalize est:((b ^ r.length:Nat):Int)=st at hst⊢
  refine ⟨_,rfl,a,kvs,rfl,(by rw [upd_ne nal];exact ha),fun o=>for_dict (fun i σ H2=>∃ v5 v6 v7 v8,σ=[some (.ref a),some (.int b),some (.int wt),some (.int st),some (.ref l),v5,v6,v7,v8]∧H2 a=some (.frz o (.dK kvs))∧Kp [a] H H2∧∃ kl hl',H2 l=some (.dK kl)∧PT H2 kl hl'∧Mu.OkT hl' ((m:Int)+135)∧∀ A B,Mu.TT hl' A B=Mu.TT (f.take i) (fA b wt st A B b) (fB wt B b))
   ⟨none,none,none,none,rfl,upd_same,kp_upd (kp_upd Kp.refl (.inr hl)) (.inl (by simp)),[],[],?_,.nil,Mu.OkT.nil,fun A B=>rfl⟩ (fun i σ H2 _ h=>by obtain ⟨_,_,_,_,_,z,_⟩:=h;exact z) ?_ ?_⟩
  ·rw [upd_ne nal.symm,upd_same]
  ·rintro i kk v σ H2 hk ⟨v5,v6,v7,v8,rfl,fa,kp,kl,hl',hl2,pl,ok0,e0⟩
   obtain ⟨p,hp,hkk,_⟩:=Paired.at pd hk
   have hkk':kk=Sum.inl p.1:=hkk
   subst hkk'
   have pm:=List.mem_of_getElem? hp
   have pb:=R.ok.bd p.1 (List.mem_map.mpr ⟨p,pm,rfl⟩)
   have pe:=RepA.ent R hb hr6 pm
   have pd2:PT H2 kvs f:=PT.kp pd kp ha (fun xs z=>nomatch z)
   obtain ⟨t,et,ht⟩:∃ t,valV kvs (Sum.inl p.1)=some (.ref t)∧H2 t=some (.tup [.int p.2.1,.int p.2.2]):=by
    rcases PT.val p.1 pd2 with ⟨e1,e2⟩ | ⟨m,x,e1,e2,e3⟩
    ·rw [Mu.look_memT R.ok.nd pm] at e2;cases e2
    ·rw [Mu.look_memT R.ok.nd pm] at e1
     cases e1
     exact ⟨x,e2,e3⟩
   have dg:DGet H2 a (.int p.1) (some (.ref t)):=.inl ⟨kvs,Sum.inl p.1,.inr ⟨o,fa⟩,rfl,et.symm⟩
   refine ⟨_,rfl,_,rfl,a,.ref t,rfl,dg,t,_,0,_,rfl,rfl,SqT.of ht,rfl,?_⟩
   refine ⟨_,rfl,_,rfl,a,.ref t,rfl,dg,t,_,1,_,rfl,rfl,SqT.of ht,rfl,?_⟩
   refine ⟨_,rfl,_,rfl,by omega,by omega,for_range (n:=(b:Int).toNat) (fun d σ H3=>∃ v8,σ=[some (.ref a),some (.int b),some (.int wt),some (.int st),some (.ref l),some (.int p.1),some (.int p.2.1),some (.int p.2.2),v8]∧H3 a=some (.frz o (.dK kvs))∧Kp [a] H H3∧∃ kl hl',H3 l=some (.dK kl)∧PT H3 kl hl'∧Mu.OkT hl' ((m:Int)+135)∧∀ A B,Mu.TT hl' A B=Mu.TT (f.take i) (fA b wt st A B b) (fB wt B b)+(p.2.1*fA b wt st A B d p.1+p.2.2*fB wt B d p.1))
    ⟨v8,rfl,fa,kp,kl,hl',hl2,pl,ok0,fun A B=>by rw [e0];simp [fA,fB,Mg.ns]⟩ ?_ ?_⟩
   ·rintro d σ H3 hd ⟨v8,rfl,fa3,kp3,kl3,hl3',hl3,pl3,ok3,e3⟩
    have hd':d<b:=by omega
    have hlen:=Mu.OkT.len (m:=m+135) (by push_cast;exact ok3)
    have hds:(d:Int)*st≤15*268435456:=Int.mul_le_mul (by omega) hst.2 hst.1 (by decide)
    have hds0:0≤(d:Int)*st:=Int.mul_nonneg (by omega) hst.1
    refine ⟨_,rfl,_,rfl,_,rfl,_,rfl,_,_,rfl,rfl,.inr ⟨by omega,by omega⟩,_,_,rfl,rfl,?_⟩
    refine ⟨_,rfl,_,rfl,_,rfl,_,rfl,_,_,rfl,rfl,.inr ⟨by omega,by omega⟩,_,rfl,_,_,rfl,rfl,.inl ⟨?_,?_⟩,_,_,rfl,rfl,?_⟩
    ·show -(2 ^ 64)<((0:Int)+(d:Int))*st
     rw [Int.zero_add];omega
    ·show ((0:Int)+(d:Int))*st<2 ^ 64
     rw [Int.zero_add];omega
    refine ⟨l,kl3,_,_,_,_,rfl,hl3,pl3,by omega,fun kvs' H4 h4 pd4 kp4=>⟨_,rfl,?_,?_,kvs',_,h4,pd4,?_,fun A B=>?_⟩⟩
    ·exact kp4 _ _ fa3 (by simpa using nal)
    ·intro x ob e n
     have hxl:x≠l:=ne_of_none e hl
     exact kp4 _ _ (kp3 _ _ e n) (by simpa using hxl)
    ·refine ok3.add ?_
     show -((m:Int)+135)≤p.1+((0:Int)+(d:Int))*wt∧p.1+((0:Int)+(d:Int))*wt≤(m:Int)+135
     rw [Int.zero_add]
     exact Me.step_in pb hw hb hd'
    ·rw [Mu.TT_add ok3.nd,e3 A B]
     have z0:(0:Int)+(d:Int)=(d:Int):=Int.zero_add _
     rw [z0]
     exact f_step _ _ _ _ _ _ 0 _ _
   ·rintro σ H3 ⟨v8,rfl,fa3,kp3,kl3,hl3',hl3,pl3,ok3,e3⟩
    refine ⟨_,_,_,_,rfl,fa3,kp3,kl3,hl3',hl3,pl3,ok3,fun A B=>?_⟩
    have eb:(b:Int).toNat=b:=by omega
    rw [e3 A B,Mu.TT_take hp,eb]
  ·rintro σ H2 ⟨v5,v6,v7,v8,rfl,fa,kp,kl,hl',hl2,pl,ok0,e0⟩
   have el:kvs.length=f.length:=PT.len pd
   rw [el,List.take_length] at e0
   refine ⟨a,o,kvs,fa,(fun o' u z=>by
    have z':H a=some (.frz o' u):=z
    rw [ha] at z';cases z'),_,rfl,k l kl hl' _ hl (fun x ob e=>?_) (by rw [upd_ne nal.symm];exact hl2) (PT.tups pl fun t xs e=>?_) (Mu.Rep.ahead R ok0 fun A B=>?_)⟩
   ·by_cases hx:x=a
    ·rw [hx,upd_same,← ha,← hx];exact e
    ·rw [upd_ne hx];exact kp x ob e (by simpa using hx)
   ·have hx:t≠a:=fun z=>by rw [z,fa] at e;cases e
    rw [upd_ne hx];exact e
   ·rw [e0 A B,← est]
    rfl
end
end Hv
namespace Hv
open PySem L2
noncomputable def EndAt(H:Hp)(b:Nat)(us:List Addr)(ws:List Int)(i:Nat):Prop:=us.length=i+1∧∀ j,j≤i→∃ t kvs h,us[j]?=some t∧H t=some (.dK kvs)∧PT H kvs h∧RepA h (135*(j:Int)) b (ws.drop (ws.length - j))
theorem EndAt.keep{H H':Hp}{b i:Nat}{us:List Addr}{rs:List Int}(h:EndAt H b us rs i)(s:Same H H'):EndAt H' b us rs i :=
 ⟨h.1,fun j hj=>let ⟨t,kvs,h,e1,e2,e3,e4⟩:=h.2 j hj;⟨t,kvs,h,e1,s _ _ e2,PT.keep e3 s,e4⟩⟩
theorem EndAt.kp{H H':Hp}{b i:Nat}{us:List Addr}{rs:List Int}{d:Addr}{xs:List V}(h:EndAt H b us rs i)(k:Kp [d] H H')(hd:H d=some (.lst xs)):EndAt H' b us rs i :=
 ⟨h.1,fun j hj=>let ⟨t,kvs,h,e1,e2,e3,e4⟩:=h.2 j hj;⟨t,kvs,h,e1,k _ _ e2 (fun z=>by
  have z':t=d:=by simpa using z
  rw [z',hd] at e2;cases e2),PT.kp e3 k hd (fun xs z=>nomatch z),e4⟩⟩
noncomputable def TailsT(H:Hp)(b:Nat)(ts:List Addr)(ws:List Int):Prop:=∀ i,i≤ws.length→∃ t kvs h,ts[i]?=some t∧H t=some (.dK kvs)∧PT H kvs h∧RepA h (135*((ws.length - i:Nat):Int)) b (ws.drop i)
theorem TailsT.keep{H H':Hp}{b:Nat}{ts:List Addr}{ws:List Int}(h:TailsT H b ts ws)(s:Same H H'):TailsT H' b ts ws :=
 fun j hj=>let ⟨t,kvs,h,e1,e2,e3,e4⟩:=h j hj;⟨t,kvs,h,e1,s _ _ e2,PT.keep e3 s,e4⟩
noncomputable def spTailsT:Sp:=fun vs H Q _=>∃ (b:Nat) (c:Addr) (ws:List Int),vs=[.int b,.ref c]∧H c=some (.lst (ws.map V.int))∧b≤16∧(∀ x∈ws,-9≤x∧x≤9)∧ws.length≤6∧
 ∀ (p:Addr) (ts:List Addr) (H':Hp),H p=none→Same H H'→H' p=some (.lst (ts.map V.ref))→ts.length=ws.length+1→TailsT H' b ts ws→Q (.ref p) H'
theorem rev_at{ws:List Int}{i:Nat}{x:Int}(h:ws.reverse[i]?=some x):ws.drop (ws.length - (i+1))=x::ws.drop (ws.length - i):=by
 have hi:i<ws.length:=by have:=(List.getElem?_eq_some_iff.mp h).1;simpa using this
 rw [List.getElem?_reverse hi] at h
 have e:ws.length - 1 - i=ws.length - (i+1):=by omega
 rw [e] at h
 obtain ⟨h1,h2⟩:=List.getElem?_eq_some_iff.mp h
 rw [List.drop_eq_getElem_cons h1,h2]
 congr 2
 omega
section
variable{P:Program}{w:World}{K:PySem.W.Frag}{mg:Str→Option Value}{base:Heap}
theorem ok_tailsT{f:Addr}{fd:FuncData}(F:Fun K "worth_tails" "worth_tails" sTails f fd)(T:Txt mg)(DS:Def P w K mg base 1 "stands_of" ["base","length"] spStands)(DA:Def P w K mg base 2 "with_figure_ahead" ["tail","base","weight","stand"] spAheadT):FnOk P w K mg base CX0 3 f fd ["base","weights"] spTailsT:=by
 refine F.ok scTails (fun vs H Q E h=>?_) (fun cdv A outer s H vs Q E hr h=>?_)
 ·obtain ⟨b,c,ws,rfl,_⟩:=h;rfl
 ·obtain ⟨b,c,ws,rfl,hc,hb,hw,hl6,k⟩:=h
  have nd:=scTails.nd
  rw [b0_eq]
  refine ⟨_,pss_cons (ps_set (i:=2) nd rfl (Or.inl rfl) (pe_fn DS (hr.mono (by decide)) (by rfl) (pa_cons (pv 0) (pa_cons (lenS T.len (by rfl) (pv 1)) pa_nil))))
   (pss_cons (ps_set (i:=3) nd rfl (Or.inl rfl) pe_e0 (sw_e0 _ _ _ _))
   (pss_cons (ps_for PassesOwn.never rfl (pi_rev (by rfl) T.rev (pv 1)) (pg_name (i:=4) nd rfl (Or.inl rfl))
    (pss_one (ps_expr (pe_bm PySem.F.plainAttrs_list PySem.F.slot_list_append PySem.F.type_list_append mt_append (pv 3) (pa_cons (pe_fn DA hr (by rfl) (pa_cons (ixl (pv 3) (pe_un un_neg pe_int)) (pa_cons (pv 0) (pa_cons (pv 4) (pa_cons (ixl (pv 2) (pe_op op_sub (lenS T.len (by rfl) (pv 3)) pe_int)) pa_nil))))) pa_nil)))))
   (pss_one (ps_ret (pe_lrev rfl T.list T.rev (by rfl) (by rfl) (pv 3)))))),?_⟩
  refine ⟨_,rfl,_,rfl,c,_,rfl,.inl (SqL.of hc),b,ws.length,by simp,hb,hl6,fun p H1 hp s1 hp1=>?_⟩
  refine fun d0 hd0=>?_
  refine ⟨sz (by simp),fun t0 ht0=>?_⟩
  have nt:d0≠t0:=ne_of_none upd_same ht0
  have u0:(upd (upd H1 d0 (.dK [])) t0 (.tup [.int 1,.int 0])) d0=some (.dK []):=by rw [upd_ne nt];exact upd_same
  have v0:(upd (upd H1 d0 (.dK [])) t0 (.tup [.int 1,.int 0])) t0=some (.tup [.int 1,.int 0]):=upd_same
  have s2:Same H1 (upd (upd H1 d0 (.dK [])) t0 (.tup [.int 1,.int 0])):=(same_upd hd0).trans (same_upd ht0)
  generalize upd (upd H1 d0 (.dK [])) t0 (.tup [.int 1,.int 0])=H2 at u0 v0 s2⊢
  refine ⟨u0,[(Sum.inl 0,.ref t0)],rfl,Nat.succ_le_succ (Nat.zero_le _),?_⟩
  have s3:Same H1 (upd H2 d0 (.dK (mergeK [] [(Sum.inl 0,.ref t0)]))):=same_upd2 s2 hd0
  have u3:(upd H2 d0 (.dK (mergeK [] [(Sum.inl 0,.ref t0)]))) d0=some (.dK [(Sum.inl 0,.ref t0)]):=upd_same
  have v3:(upd H2 d0 (.dK (mergeK [] [(Sum.inl 0,.ref t0)]))) t0=some (.tup [.int 1,.int 0]):=by rw [upd_ne nt.symm];exact v0
  generalize upd H2 d0 (.dK (mergeK [] [(Sum.inl 0,.ref t0)]))=H3 at s3 u3 v3⊢
  refine ⟨sz (by simp),fun l hl=>?_⟩
  have s4:Same H3 (upd H3 l (.lst [.ref d0])):=same_upd hl
  have S4:=s1.trans (s3.trans s4)
  have hlH:H l=none:=s1.free (s3.free hl)
  have u4:(upd H3 l (.lst [.ref d0])) l=some (.lst ([d0].map V.ref)):=upd_same
  have B4:EndAt (upd H3 l (.lst [.ref d0])) b [d0] ws 0:=⟨rfl,fun j hj=>by
   have:j=0:=by omega
   subst this
   refine ⟨d0,_,[(0,1,0)],rfl,s4 _ _ u3,.cons ⟨rfl,t0,rfl,s4 _ _ v3⟩ .nil,?_⟩
   rw [Nat.sub_zero,List.drop_length]
   exact Mu.Rep.start (by decide)⟩
  have p4:=(s3.trans s4) _ _ hp1
  have npl:p≠l:=ne_of_none (s3 _ _ hp1) hl
  have c4:=S4 _ _ hc
  generalize upd H3 l (.lst [.ref d0])=H4 at s4 S4 u4 B4 p4 c4⊢
  refine ⟨_,rfl,c,ws.map V.int,rfl,SqL.of c4,for_rev (K:=K) (a:=c) (xs:=ws.map V.int) (fun i σ H5=>∃ (us:List Addr) (v4:Option V),σ=[some (.int b),some (.ref c),some (.ref p),some (.ref l),v4]∧Same H H5∧H5 p=some (.lst ((powL b ws.length).map V.int))∧H5 l=some (.lst (us.map V.ref))∧EndAt H5 b us ws i)
   ⟨[d0],none,rfl,S4,p4,u4,B4⟩ (fun i σ H5 _ h=>by obtain ⟨_,_,_,t,_⟩:=h;exact SqL.of (t _ _ hc)) ?_ ?_⟩
  ·rintro i x σ H5 hx ⟨us,v4,rfl,s5,p5,l5,B5⟩
   rw [← List.map_reverse,List.getElem?_map] at hx
   obtain ⟨wt,hwt,rfl⟩:∃ wt,ws.reverse[i]?=some wt∧x=.int wt:=by
    cases e:ws.reverse[i]? with
    | none=>rw [e] at hx;cases hx
    | some d=>rw [e] at hx;exact ⟨d,rfl,(Option.some.inj hx).symm⟩
   have hi:i<ws.length:=by have:=(List.getElem?_eq_some_iff.mp hwt).1;simpa using this
   obtain ⟨t,kvs,h,e1,e2,e3,e4⟩:=B5.2 i (Nat.le_refl _)
   have el:(ws.drop (ws.length - i)).length=i:=by rw [List.length_drop];omega
   have eln:(((us.map V.ref).length:Nat):Int) - 1=(i:Int):=by rw [List.length_map,B5.1];omega
   have est:atI ((powL b ws.length).map V.int) (i:Int)=some (.int ((b ^ (ws.drop (ws.length - i)).length:Nat):Int)):=by
    rw [el]
    exact atI_nat (by rw [List.getElem?_map,powL_at (by omega)];rfl)
   have hw' : -9≤wt∧wt≤9:=hw wt (by have:=List.mem_of_getElem? hwt;simpa using this)
   refine ⟨_,rfl,.inl ⟨rfl,_,SqL.of l5⟩,_,rfl,_,rfl,r_ixl l5 (atI_lastR B5.1 e1) ⟨_,rfl,_,rfl,_,rfl,_,rfl,l,_,rfl,.inl (SqL.of l5),_,_,rfl,rfl,?_⟩⟩
   refine ⟨p,_,(((us.map V.ref).length:Nat):Int) - 1,_,rfl,rfl,SqL.of p5,by rw [eln];exact est,?_⟩
   refine ⟨t,kvs,h,b,wt,_,135*i,rfl,e2,e3,by push_cast;exact e4,by omega,hb,hw',by omega,fun q kvs' h' H6 hq s6 h6 pd6 R6=>?_⟩
   refine ⟨l,_,_,rfl,rfl,s6 _ _ l5,szl (by rw [List.length_map,B5.1];omega),us++[q],_,rfl,same_upd2 (s5.trans s6) hlH,?_,?_,?_⟩
   ·rw [upd_ne npl];exact s6 _ _ p5
   ·rw [upd_same,List.map_append];rfl
   ·have B6:=(B5.keep s6).kp (H':=upd H6 l (.lst (us.map V.ref++[V.ref q]))) (kp_upd Kp.refl (.inl (by simp))) (s6 _ _ l5)
    have nql:q≠l:=ne_of h6 (s6 _ _ l5) (by intro z;cases z)
    refine ⟨by rw [List.length_append,B5.1];rfl,fun j hj=>?_⟩
    by_cases hji:j≤i
    ·obtain ⟨t',kv',h',a1,a2,a3,a4⟩:=B6.2 j hji
     exact ⟨t',kv',h',by rw [List.getElem?_append_left (by rw [B5.1];omega)];exact a1,a2,a3,a4⟩
    ·have ej:j=i+1:=by omega
     subst ej
     refine ⟨q,kvs',h',by rw [List.getElem?_append_right (by rw [B5.1];omega),B5.1];simp,by rw [upd_ne nql];exact h6,PT.kp pd6 (kp_upd Kp.refl (.inl (by simp))) (s6 _ _ l5) (fun xs z=>nomatch z),?_⟩
     rw [rev_at hwt]
     have em:(135:Int)*((i+1:Nat):Int)=((135*i:Nat):Int)+135:=by omega
     rw [em]
     exact R6
  ·rintro σ H5 ⟨us,v4,rfl,s5,p5,l5,B5⟩
   rw [List.length_map] at B5
   refine ⟨_,rfl,l,_,rfl,SqL.of l5,fun r hr'=>?_⟩
   have s6:=same_upd (o:=.lst (us.map V.ref).reverse) hr'
   have B6:=B5.keep s6
   refine k r us.reverse _ (s5.free hr') (s5.trans s6) (by rw [upd_same,List.map_reverse]) (by rw [List.length_reverse,B5.1]) fun i hi=>?_
   obtain ⟨t,kvs,h,e1,e2,e3,e4⟩:=B6.2 (ws.length - i) (by omega)
   refine ⟨t,kvs,h,?_,e2,e3,?_⟩
   ·rw [List.getElem?_reverse (by rw [B5.1];omega),B5.1]
    have:ws.length+1 - 1 - i=ws.length - i:=by omega
    rw [this];exact e1
   ·have:ws.length - (ws.length - i)=i:=by omega
    rw [this] at e4
    exact e4
end
end Hv
namespace L2
open PySem PySem.Spec PyProof.Rows
noncomputable abbrev IsTri(h:Heap)(T:Addr)(a b c:Value):Prop:=h.get? T=some {cls:=.type "tuple",data:=.seq #[a,b,c]}
theorem typeCall_zip_3(a b c:Value):checkTypeCall "zip" ⟨[a,b,c],[]⟩=pure ():=by kernel_rfl
theorem newCall_zip_3(a b c:Value):checkBuiltinCall "zip.__new__" ⟨[.type "zip",a,b,c],[]⟩=pure ():=by kernel_rfl
theorem args_init_4(a b c d:Value):argsOk "object.__init__" ⟨[a,b,c,d],[]⟩:=by
 unfold argsOk;rw [signature?_of (id:="object.__init__") (n:=['_','_','t','i','n','i','_','_']) (o:=['t','c','e','j','b','o']) (by kernel_rfl) F.owner_object];kernel_rfl
structure Zd(z TI TO i1 i2 i3 l1 l2 l3:Addr):Prop where
 nd:[z,TI,TO,i1,i2,i3].Nodup
 f1:l1∉[z,TO,i1,i2,i3]
 f2:l2∉[z,TO,i1,i2,i3]
 f3:l3∉[z,TO,i1,i2,i3]
section
variable{prog:Program}{w:World}{A:Around}{E:Value→Shared→Prop}{s:Shared}
theorem updTri{T:Addr}{a b c x:Value}{k:Nat}{Q:Unit→Shared→Prop}(hT:IsTri s.heap T a b c)
  (h:∀ h',h'.get? T=some {cls:=.type "tuple",data:=.seq ((#[a,b,c]:Array Value).setIfInBounds k x)}→Heap.SameBut T s.heap h'→Q () {s with heap:=h'}) :
  wpAny (model prog w) A (updateSeq T (·.setIfInBounds k x)) Q E s:=by
 refine wpAny_updateSeq hT rfl (h _ ?_ (Heap.SameBut.update ..))
 rw [Heap.get?_update_self _ hT rfl]
 simp [Obj.mapSeq]
theorem next3_item{z TI TO i1 i2 i3 l1 l2 l3:Addr}{k1 k2 k3:Nat}{xs ys zs:Array Value}{x y u a b c:Value}{Q:Value→Shared→Prop}(D:Zd z TI TO i1 i2 i3 l1 l2 l3)
  (hz:IsZip s.heap z TI TO .none) (hTI:IsTri s.heap TI (.ref i1) (.ref i2) (.ref i3)) (hTO:IsTri s.heap TO a b c)
  (h1:s.heap.IsListIter i1 l1 k1) (h2:s.heap.IsListIter i2 l2 k2) (h3:s.heap.IsListIter i3 l3 k3) (hl1:s.heap.IsList l1 xs) (hl2:s.heap.IsList l2 ys) (hl3:s.heap.IsList l3 zs) (hx:xs[k1]?=some x) (hy:ys[k2]?=some y) (hu:zs[k3]?=some u)
  (hQ:∀ h',IsZip h' z TI TO (rawInt s.heap.objs.size)→IsTri h' TO x y u→h'.IsListIter i1 l1 (k1+1)→h'.IsListIter i2 l2 (k2+1)→h'.IsListIter i3 l3 (k3+1)→IsTri h' s.heap.objs.size x y u→h'.objs.size=s.heap.objs.size+1→
   (∀ c o,c∉[z,TO,i1,i2,i3]→s.heap.get? c=some o→h'.get? c=some o)→Q (.ref s.heap.objs.size) {s with heap:=h'}) :
  wpAny (model prog w) A (Builtin.«zip.__next__» ⟨[.ref z],[]⟩) (fun fin s'=>∃ v,fin=.done (.ret v)∧Q v s') E s:=by
 have nd:=D.nd
 simp only [List.nodup_cons,List.mem_cons,List.not_mem_nil,or_false,not_or,not_false_eq_true,List.nodup_nil,and_true] at nd
 obtain ⟨⟨zTI,zTO,zi1,zi2,zi3⟩,⟨TITO,TIi1,TIi2,TIi3⟩,⟨TOi1,TOi2,TOi3⟩,⟨i12,i13⟩,i23⟩:=nd
 have f1:=D.f1
 have f2:=D.f2
 have f3:=D.f3
 simp only [List.mem_cons,List.not_mem_nil,or_false,not_or] at f1 f2 f3
 obtain ⟨l1z,l1TO,l1i1,l1i2,l1i3⟩:=f1
 obtain ⟨l2z,l2TO,l2i1,l2i2,l2i3⟩:=f2
 obtain ⟨l3z,l3TO,l3i1,l3i2,l3i3⟩:=f3
 show wpAny _ _ (field (.ref z) 2>>=_) _ _ _
 refine wpAny_bind (wpAny_field hz rfl (x:=.bool false) rfl ?_)
 show wpAny _ _ (field (.ref z) 3>>=_) _ _ _
 refine wpAny_bind (wpAny_field hz rfl (x:=.ref TI) rfl ?_)
 refine wpAny_bind (wpAny_seqItems hTI rfl ?_)
 show wpAny _ _ (Builtin.SmallTypes.ownedTupleIsFree (.ref z)>>=_) _ _ _
 refine wpAny_bind ?_
 unfold Builtin.SmallTypes.ownedTupleIsFree
 refine wpAny_bind (wpAny_field hz rfl (x:=.none) rfl (wpAny_pure ?_))
 simp only [if_true]
 refine wpAny_bind (wpAny_rule ?_)
 refine wpAny_bind (wpAny_field hz rfl (x:=.ref TO) rfl ?_)
 refine wpAny_bind (wpAny_setField_rec hz (by simp) fun H1 hz1 s1=>?_)
 replace hz1:IsZip H1 z TI TO .ellipsis:=hz1
 refine wpAny_bind ?_
 simp only [List.zipIdx_cons,List.zipIdx_nil,List.forIn_cons,List.forIn_nil]
 refine wpAny_bind (wpAny_bind (wpAny_onRaise ?_))
 show wpAny _ _ (Builtin.SmallTypes.nextOf (.ref i1)>>=_) _ _ _
 refine wpAny_bind (wpAny_nextOf_list_item (h1.extBut s1.extBut (Ne.symm zi1)) (hl1.extBut s1.extBut l1z) hx fun H2 q2 s2=>wpAny_pure ?_)
 have t2:IsTri H2 TO a b c:=s2.extBut _ _ TOi1 (s1.extBut _ _ (Ne.symm zTO) hTO)
 refine wpAny_bind (wpAny_seqItems t2 rfl ?_)
 refine wpAny_bind (updTri t2 fun H3 t3 s3=>?_)
 replace t3:IsTri H3 TO x b c:=t3
 refine wpAny_bind (wpAny_letGo (wpAny_pure ?_))
 refine wpAny_bind (wpAny_bind (wpAny_onRaise ?_))
 show wpAny _ _ (Builtin.SmallTypes.nextOf (.ref i2)>>=_) _ _ _
 have up3:∀ c o,c≠z→c≠TO→c≠i1→s.heap.get? c=some o→H3.get? c=some o:=fun c o c1 c2 c3 e=>s3.extBut _ _ c2 (s2.extBut _ _ c3 (s1.extBut _ _ c1 e))
 refine wpAny_bind (wpAny_nextOf_list_item (h2.at fun o e=>up3 _ o (Ne.symm zi2) (Ne.symm TOi2) (Ne.symm i12) e) (Heap.IsList.at hl2 fun o e=>up3 _ o l2z l2TO l2i1 e) hy fun H4 q4 s4=>wpAny_pure ?_)
 have t4:IsTri H4 TO x b c:=s4.extBut _ _ TOi2 t3
 refine wpAny_bind (wpAny_seqItems t4 rfl ?_)
 refine wpAny_bind (updTri t4 fun H5 t5 s5=>?_)
 replace t5:IsTri H5 TO x y c:=t5
 refine wpAny_bind (wpAny_letGo (wpAny_pure ?_))
 refine wpAny_bind (wpAny_bind (wpAny_onRaise ?_))
 show wpAny _ _ (Builtin.SmallTypes.nextOf (.ref i3)>>=_) _ _ _
 have up5:∀ c o,c≠z→c≠TO→c≠i1→c≠i2→s.heap.get? c=some o→H5.get? c=some o:=fun c o c1 c2 c3 c4 e=>s5.extBut _ _ c2 (s4.extBut _ _ c4 (up3 c o c1 c2 c3 e))
 refine wpAny_bind (wpAny_nextOf_list_item (h3.at fun o e=>up5 _ o (Ne.symm zi3) (Ne.symm TOi3) (Ne.symm i13) (Ne.symm i23) e) (Heap.IsList.at hl3 fun o e=>up5 _ o l3z l3TO l3i1 l3i2 e) hu fun H6 q6 s6=>wpAny_pure ?_)
 have t6:IsTri H6 TO x y c:=s6.extBut _ _ TOi3 t5
 refine wpAny_bind (wpAny_seqItems t6 rfl ?_)
 refine wpAny_bind (updTri t6 fun H7 t7 s7=>?_)
 replace t7:IsTri H7 TO x y u:=t7
 refine wpAny_bind (wpAny_letGo (wpAny_pure (wpAny_pure ?_)))
 refine wpAny_bind (wpAny_seqItems t7 rfl ?_)
 refine wpAny_bind (wpAny_newTuple ?_)
 have hsz:H7.objs.size=s.heap.objs.size:=by rw [s7.1,s6.1,s5.1,s4.1,s3.1,s2.1,s1.1]
 have z3:IsZip H3 z TI TO .ellipsis:=s3.extBut _ _ zTO (s2.extBut _ _ zi1 hz1)
 have z7:IsZip H7 z TI TO .ellipsis:=s7.extBut _ _ zTO (s6.extBut _ _ zi3 (s5.extBut _ _ zTO (s4.extBut _ _ zi2 z3)))
 have up7:∀ c o,c∉[z,TO,i1,i2,i3]→s.heap.get? c=some o→H7.get? c=some o:=fun c o hc e=>by
  simp only [List.mem_cons,List.not_mem_nil,or_false,not_or] at hc
  obtain ⟨c1,c2,c3,c4,c5⟩:=hc
  exact s7.extBut _ _ c2 (s6.extBut _ _ c5 (up5 c o c1 c2 c3 c4 e))
 have r1:H7.IsListIter i1 l1 (k1+1):=q2.at fun o e=>s7.extBut _ _ (Ne.symm TOi1) (s6.extBut _ _ i13 (s5.extBut _ _ (Ne.symm TOi1) (s4.extBut _ _ i12 (s3.extBut _ _ (Ne.symm TOi1) e))))
 have r2:H7.IsListIter i2 l2 (k2+1):=q4.at fun o e=>s7.extBut _ _ (Ne.symm TOi2) (s6.extBut _ _ i23 (s5.extBut _ _ (Ne.symm TOi2) e))
 have r3:H7.IsListIter i3 l3 (k3+1):=q6.at fun o e=>s7.extBut _ _ (Ne.symm TOi3) e
 have zlt:z<H7.objs.size:=Heap.lt_size z7
 show wpAny _ _ (Builtin.SmallTypes.ownedTupleHandOut (.ref z) (.ref H7.objs.size)>>=_) _ _ _
 refine wpAny_bind ?_
 unfold Builtin.SmallTypes.ownedTupleHandOut
 have z8:IsZip (H7.push {cls:=.type "tuple",data:=.seq #[x,y,u]}) z TI TO .ellipsis:=Heap.get?_push_of_some _ z7
 refine wpAny_bind (wpAny_setField_rec z8 (by simp) fun H8 w8 s8=>?_)
 replace w8:IsZip H8 z TI TO (rawInt H7.objs.size):=w8
 refine wpAny_setField_rec w8 (by simp) fun H9 w9 s9=>?_
 replace w9:IsZip H9 z TI TO (rawInt H7.objs.size):=w9
 have up:∀ c o,c≠z→H7.get? c=some o→H9.get? c=some o:=fun c o c1 e=>s9.extBut _ _ c1 (s8.extBut _ _ c1 (Heap.get?_push_of_some _ e))
 have t9:IsTri H9 H7.objs.size x y u:=s9.extBut _ _ (Nat.ne_of_gt zlt) (s8.extBut _ _ (Nat.ne_of_gt zlt) (Heap.get?_push_size _ rfl))
 have zz:H9.objs.size=H7.objs.size+1:=by rw [s9.1,s8.1,Heap.size_push]
 rw [hsz] at w9 t9 zz
 refine wpAny_pure ⟨_,rfl,?_⟩
 show Q (.ref H7.objs.size) _
 rw [hsz]
 exact hQ H9 w9 (up _ _ (Ne.symm zTO) t7) (r1.at fun o e=>up _ o (Ne.symm zi1) e) (r2.at fun o e=>up _ o (Ne.symm zi2) e) (r3.at fun o e=>up _ o (Ne.symm zi3) e) t9 zz fun c o hc e=>up c o (fun q=>hc (by simp [q])) (up7 c o hc e)
end
end L2
namespace L2
open PySem PySem.Spec PyProof.Rows
section
variable{prog:Program}{w:World}{A:Around}{E:Value→Shared→Prop}{s:Shared}
theorem next3_end{z TI TO i1 i2 i3 l1 l2 l3:Addr}{k1:Nat}{xs:Array Value}{a b c:Value}{Q:Fin→Shared→Prop}(hh:A.handled=none)(D:Zd z TI TO i1 i2 i3 l1 l2 l3)
  (hz:IsZip s.heap z TI TO .none) (hTI:IsTri s.heap TI (.ref i1) (.ref i2) (.ref i3)) (hTO:IsTri s.heap TO a b c)
  (h1:s.heap.IsListIter i1 l1 k1) (hl1:s.heap.IsList l1 xs) (hend:xs[k1]?=none)
  (hE:∀ h' e,(∀ c o,c∉[z,TO,i1,i2,i3]→s.heap.get? c=some o→h'.get? c=some o)→(∃ o,h'.get? e=some o∧o.cls=.type "StopIteration")→E (.ref e) {s with heap:=h'}) :
  wpAny (model prog w) A (Builtin.«zip.__next__» ⟨[.ref z],[]⟩) Q E s:=by
 have nd:=D.nd
 simp only [List.nodup_cons,List.mem_cons,List.not_mem_nil,or_false,not_or,not_false_eq_true,List.nodup_nil,and_true] at nd
 obtain ⟨⟨zTI,zTO,zi1,zi2,zi3⟩,⟨TITO,TIi1,TIi2,TIi3⟩,⟨TOi1,TOi2,TOi3⟩,⟨i12,i13⟩,i23⟩:=nd
 have f1:=D.f1
 simp only [List.mem_cons,List.not_mem_nil,or_false,not_or] at f1
 obtain ⟨l1z,l1TO,l1i1,l1i2,l1i3⟩:=f1
 show wpAny _ _ (field (.ref z) 2>>=_) _ _ _
 refine wpAny_bind (wpAny_field hz rfl (x:=.bool false) rfl ?_)
 show wpAny _ _ (field (.ref z) 3>>=_) _ _ _
 refine wpAny_bind (wpAny_field hz rfl (x:=.ref TI) rfl ?_)
 refine wpAny_bind (wpAny_seqItems hTI rfl ?_)
 show wpAny _ _ (Builtin.SmallTypes.ownedTupleIsFree (.ref z)>>=_) _ _ _
 refine wpAny_bind ?_
 unfold Builtin.SmallTypes.ownedTupleIsFree
 refine wpAny_bind (wpAny_field hz rfl (x:=.none) rfl (wpAny_pure ?_))
 simp only [if_true]
 refine wpAny_bind (wpAny_rule ?_)
 refine wpAny_bind (wpAny_field hz rfl (x:=.ref TO) rfl ?_)
 refine wpAny_bind (wpAny_setField_rec hz (by simp) fun H1 hz1 s1=>?_)
 replace hz1:IsZip H1 z TI TO .ellipsis:=hz1
 refine wpAny_bind ?_
 simp only [List.zipIdx_cons,List.zipIdx_nil,List.forIn_cons,List.forIn_nil]
 refine wpAny_bind (wpAny_bind (wpAny_onRaise ?_))
 show wpAny _ _ (Builtin.SmallTypes.nextOf (.ref i1)>>=_) _ _ _
 refine wpAny_bind (wpAny_nextOf_list_end hh (h1.extBut s1.extBut (Ne.symm zi1)) (hl1.extBut s1.extBut l1z) hend fun H2 e s2 he=>?_)
 obtain ⟨oe,hoe,hce⟩:=he
 have hz2:IsZip H2 z TI TO .ellipsis:=s2 _ _ zi1 hz1
 have hez:e≠z:=fun x=>by subst x;rw [hz2] at hoe;cases hoe;simp at hce
 refine wpAny_setField_rec hz2 (by simp) fun H3 _ s3=>hE H3 e (fun c o hc x=>?_) ⟨oe,s3.extBut _ _ hez hoe,hce⟩
 simp only [List.mem_cons,List.not_mem_nil,or_false,not_or] at hc
 exact s3.extBut _ _ hc.1 (s2 _ _ hc.2.2.1 (s1.extBut _ _ hc.1 x))
theorem pyNext3_item{z TI TO i1 i2 i3 l1 l2 l3:Addr}{k1 k2 k3:Nat}{xs ys zs:Array Value}{x y u a b c:Value}{Q:Option Value→Shared→Prop}(D:Zd z TI TO i1 i2 i3 l1 l2 l3)
  (hz:IsZip s.heap z TI TO .none) (hTI:IsTri s.heap TI (.ref i1) (.ref i2) (.ref i3)) (hTO:IsTri s.heap TO a b c)
  (h1:s.heap.IsListIter i1 l1 k1) (h2:s.heap.IsListIter i2 l2 k2) (h3:s.heap.IsListIter i3 l3 k3) (hl1:s.heap.IsList l1 xs) (hl2:s.heap.IsList l2 ys) (hl3:s.heap.IsList l3 zs) (hx:xs[k1]?=some x) (hy:ys[k2]?=some y) (hu:zs[k3]?=some u)
  (hQ:∀ h',IsZip h' z TI TO (rawInt s.heap.objs.size)→IsTri h' TO x y u→h'.IsListIter i1 l1 (k1+1)→h'.IsListIter i2 l2 (k2+1)→h'.IsListIter i3 l3 (k3+1)→IsTri h' s.heap.objs.size x y u→h'.objs.size=s.heap.objs.size+1→
   (∀ c o,c∉[z,TO,i1,i2,i3]→s.heap.get? c=some o→h'.get? c=some o)→Q (some (.ref s.heap.objs.size)) {s with heap:=h'}) :
  wpAny (model prog w) A (pyNext (.ref z)) Q E s:=by
 have hT:s.TypeIs (.ref z) "zip":=⟨_,hz,rfl⟩
 unfold pyNext
 exact wpAny_bind (wpAny_attempt (wpAny_callSpecial?_slot (name:=Str.ofString "__next__") hT F.slot_zip_next
  (wpAny_call_entry F.slot_zip_next hT F.entry_zip_next
   (next3_item D hz hTI hTO h1 h2 h3 hl1 hl2 hl3 hx hy hu fun h' a1 a2 a3 a4 a5 a6 a7 a8=>wpAny_pure (hQ h' a1 a2 a3 a4 a5 a6 a7 a8)) (F.args_zip_next_1 _))))
theorem pyNext3_end{z TI TO i1 i2 i3 l1 l2 l3:Addr}{k1:Nat}{xs:Array Value}{a b c:Value}{Q:Option Value→Shared→Prop}(hh:A.handled=none)(D:Zd z TI TO i1 i2 i3 l1 l2 l3)
  (hz:IsZip s.heap z TI TO .none) (hTI:IsTri s.heap TI (.ref i1) (.ref i2) (.ref i3)) (hTO:IsTri s.heap TO a b c)
  (h1:s.heap.IsListIter i1 l1 k1) (hl1:s.heap.IsList l1 xs) (hend:xs[k1]?=none)
  (hQ:∀ h',(∀ c o,c∉[z,TO,i1,i2,i3]→s.heap.get? c=some o→h'.get? c=some o)→Q none {s with heap:=h'}):wpAny (model prog w) A (pyNext (.ref z)) Q E s:=by
 have hT:s.TypeIs (.ref z) "zip":=⟨_,hz,rfl⟩
 unfold pyNext
 refine wpAny_bind (wpAny_attempt (wpAny_callSpecial?_slot (name:=Str.ofString "__next__") hT F.slot_zip_next
  (wpAny_call_entry F.slot_zip_next hT F.entry_zip_next (next3_end hh D hz hTI hTO h1 hl1 hend fun h' e hk he=>?_) (F.args_zip_next_1 _))))
 obtain ⟨o,ho,hc⟩:=he
 refine wpAny_bind (wpAny_isInstance (T:="StopIteration") (b:=true) ⟨o,ho,hc⟩ isSubtype_stop ?_)
 exact wpAny_pure (hQ _ hk)
end
noncomputable abbrev z3a(h:Heap)(l1:Addr):Heap:=h.push {cls:=.type "list_iterator",data:=.fields #[.ref l1,.int 0 0]}
noncomputable abbrev z3b(h:Heap)(l1 l2:Addr):Heap:=(z3a h l1).push {cls:=.type "list_iterator",data:=.fields #[.ref l2,.int 0 0]}
noncomputable abbrev z3c(h:Heap)(l1 l2 l3:Addr):Heap:=(z3b h l1 l2).push {cls:=.type "list_iterator",data:=.fields #[.ref l3,.int 0 0]}
noncomputable abbrev z3d(h:Heap)(l1 l2 l3:Addr):Heap:=(z3c h l1 l2 l3).push {cls:=.type "tuple",data:=.seq #[.ref h.objs.size,.ref (z3a h l1).objs.size,.ref (z3b h l1 l2).objs.size]}
noncomputable abbrev z3e(h:Heap)(l1 l2 l3:Addr):Heap:=(z3d h l1 l2 l3).push {cls:=.type "tuple",data:=.seq #[.none,.none,.none]}
noncomputable abbrev z3f(h:Heap)(l1 l2 l3:Addr):Heap:=(z3e h l1 l2 l3).push {cls:=.type "zip",data:=.fields #[.none,.bool false,.bool false,.ref (z3c h l1 l2 l3).objs.size,.ref (z3d h l1 l2 l3).objs.size]}
theorem meets_zip3(l1 l2 l3:Addr)(xs ys zs:Array Value) :
  Meets (Builtin.«zip.__new__» ⟨[.type "zip",.ref l1,.ref l2,.ref l3],[]⟩) (fun _ R s=>s.heap.IsList l1 xs∧s.heap.IsList l2 ys∧s.heap.IsList l3 zs∧
   R (.ok (.ret (.ref (z3e s.heap l1 l2 l3).objs.size))) {s with heap:=z3f s.heap l1 l2 l3}) :=
 .of_wp fun prog w A R s h=>by
  obtain ⟨hp,g,d,tk,os⟩:=s;obtain ⟨hl1,hl2,hl3,h⟩:=h
  have hsub:=sub_zip
  have hL1:Heap.IsList (Shared.heap ⟨hp,g,d,tk,os⟩) l1 xs:=hl1
  have hL2:Heap.IsList (Shared.heap ⟨hp.push {cls:=.type "list_iterator",data:=.fields #[.ref l1,.int 0 0]},g,d,tk,os⟩) l2 ys:=Heap.IsList.push hl2 _
  have hL3:Heap.IsList (Shared.heap ⟨(hp.push {cls:=.type "list_iterator",data:=.fields #[.ref l1,.int 0 0]}).push {cls:=.type "list_iterator",data:=.fields #[.ref l2,.int 0 0]},g,d,tk,os⟩) l3 zs:=Heap.IsList.push (Heap.IsList.push hl3 _) _
  wp_walk using wpAny_pyIter_list hL1,wpAny_pyIter_list hL2,wpAny_pyIter_list hL3
  exact ⟨_,rfl,h⟩
end L2
namespace L2
open PySem PySem.Spec PyProof.Rows
theorem nd6(n:Nat):List.Nodup [n+5,n+3,n+4,n,n+1,n+2]:=by
 simp only [List.nodup_cons,List.mem_cons,List.not_mem_nil,or_false,not_or,not_false_eq_true,List.nodup_nil,and_true]
 refine ⟨⟨?_,?_,?_,?_,?_⟩,⟨?_,?_,?_,?_⟩,⟨?_,?_,?_⟩,⟨?_,?_⟩,?_⟩ <;> omega
theorem zd_new{n l1 l2 l3:Addr}(h1:l1<n)(h2:l2<n)(h3:l3<n):Zd (n+5) (n+3) (n+4) n (n+1) (n+2) l1 l2 l3:=by
 have h1':(l1:Nat)<n:=h1
 have h2':(l2:Nat)<n:=h2
 have h3':(l3:Nat)<n:=h3
 have key:∀ l:Nat,l<n→l∉[(n:Nat)+5,n+4,n,n+1,n+2]:=fun l hl z=>by
  simp only [List.mem_cons,List.not_mem_nil,or_false] at z
  omega
 refine ⟨?_,key l1 h1,key l2 h2,key l3 h3⟩
 exact nd6 n
section
variable{prog:Program}{w:World}{A:Around}{E:Value→Shared→Prop}{s:Shared}
theorem call_zip_3{l1 l2 l3:Addr}{xs ys zs:Array Value}{Q:Value→Shared→Prop}(hl1:s.heap.IsList l1 xs)(hl2:s.heap.IsList l2 ys)(hl3:s.heap.IsList l3 zs)
  (h:∀ h',IsZip h' (s.heap.objs.size+5) (s.heap.objs.size+3) (s.heap.objs.size+4) .none→IsTri h' (s.heap.objs.size+3) (.ref s.heap.objs.size) (.ref (s.heap.objs.size+1)) (.ref (s.heap.objs.size+2))→
   IsTri h' (s.heap.objs.size+4) .none .none .none→h'.IsListIter s.heap.objs.size l1 0→h'.IsListIter (s.heap.objs.size+1) l2 0→h'.IsListIter (s.heap.objs.size+2) l3 0→
   (∀ c o,s.heap.get? c=some o→h'.get? c=some o)→Q (.ref (s.heap.objs.size+5)) {s with heap:=h'}) :
  wpAny (model prog w) A (call (.type "zip") [.ref l1,.ref l2,.ref l3]) Q E s:=by
 refine callType_new F.called_zip (by decide) (typeCall_zip_3 _ _ _) (newCall_zip_3 _ _ _) (fun obj=>args_init_4 obj _ _ _) F.entry_zip_new
  (meets_zip3 l1 l2 l3 xs ys zs) ⟨hl1,hl2,hl3,?_⟩
 have e1:(z3a s.heap l1).objs.size=s.heap.objs.size+1:=Heap.size_push ..
 have e2:(z3b s.heap l1 l2).objs.size=s.heap.objs.size+2:=by rw [Heap.size_push,e1]
 have e3:(z3c s.heap l1 l2 l3).objs.size=s.heap.objs.size+3:=by rw [Heap.size_push,e2]
 have e4:(z3d s.heap l1 l2 l3).objs.size=s.heap.objs.size+4:=by rw [Heap.size_push,e3]
 have e5:(z3e s.heap l1 l2 l3).objs.size=s.heap.objs.size+5:=by rw [Heap.size_push,e4]
 have g6:(z3f s.heap l1 l2 l3).get? (z3e s.heap l1 l2 l3).objs.size=some _:=Heap.get?_push_size _ rfl
 have g5:(z3f s.heap l1 l2 l3).get? (z3d s.heap l1 l2 l3).objs.size=some _:=Heap.get?_push_of_some _ (Heap.get?_push_size _ rfl)
 have g4:(z3f s.heap l1 l2 l3).get? (z3c s.heap l1 l2 l3).objs.size=some _:=Heap.get?_push_of_some _ (Heap.get?_push_of_some _ (Heap.get?_push_size _ rfl))
 have g3:(z3f s.heap l1 l2 l3).get? (z3b s.heap l1 l2).objs.size=some _:=Heap.get?_push_of_some _ (Heap.get?_push_of_some _ (Heap.get?_push_of_some _ (Heap.get?_push_size _ rfl)))
 have g2:(z3f s.heap l1 l2 l3).get? (z3a s.heap l1).objs.size=some _:=Heap.get?_push_of_some _ (Heap.get?_push_of_some _ (Heap.get?_push_of_some _ (Heap.get?_push_of_some _ (Heap.get?_push_size _ rfl))))
 have g1:(z3f s.heap l1 l2 l3).get? s.heap.objs.size=some _:=Heap.get?_push_of_some _ (Heap.get?_push_of_some _ (Heap.get?_push_of_some _ (Heap.get?_push_of_some _ (Heap.get?_push_of_some _ (Heap.get?_push_size _ rfl)))))
 show _∧_
 rw [e3,e4,e5] at g6
 rw [e1,e2,e3] at g4
 rw [e4] at g5
 rw [e2] at g3
 rw [e1] at g2
 rw [e5]
 exact ⟨⟨_,g6,rfl⟩,h _ g6 g4 g5 ⟨_,g1,rfl,rfl⟩ ⟨_,g2,rfl,rfl⟩ ⟨_,g3,rfl,rfl⟩ fun c o x =>
  Heap.get?_push_of_some _ (Heap.get?_push_of_some _ (Heap.get?_push_of_some _ (Heap.get?_push_of_some _ (Heap.get?_push_of_some _ (Heap.get?_push_of_some _ x)))))⟩
end
noncomputable def Itz3(K:PySem.W.Frag)(a b c:Addr):It :=
 ⟨fun i H=>∃ xs ys zs x y u,SqL K H a xs∧SqL K H b ys∧SqL K H c zs∧xs[i]?=some x∧ys[i]?=some y∧zs[i]?=some u,
  fun i H v H'=>∃ t x y u,v=.ref t∧H t=none∧(∀ xs,SqL K H a xs→xs[i]?=some x)∧(∀ ys,SqL K H b ys→ys[i]?=some y)∧(∀ zs,SqL K H c zs→zs[i]?=some u)∧H'=upd H t (.tup [x,y,u]),
  fun i H=>∃ xs,SqL K H a xs∧xs.length≤i⟩
theorem turn_zip3{P:Program}{w:World}{K:PySem.W.Frag}{elts:List Expr}{x1}{pos:Pos}(a b c z TI TO i1 i2 i3:Addr)(D:Zd z TI TO i1 i2 i3 a b c):Turn P w K (.Tuple elts x1 pos) (Itz3 K a b c) [z,TI,TO,i1,i2,i3] z
  (fun i h=>IsZip h z TI TO .none∧IsTri h TI (.ref i1) (.ref i2) (.ref i3)∧(∃ u v t,IsTri h TO u v t)∧h.IsListIter i1 a i∧h.IsListIter i2 b i∧h.IsListIter i3 c i) where
 mem:=by simp
 obj:=fun i h st e hb=>by
  obtain ⟨h1,h2,⟨u,v,t,h3⟩,⟨o4,h4,_,d4⟩,⟨o5,h5,_,d5⟩,⟨o6,h6,_,d6⟩⟩:=st
  simp only [List.mem_cons,List.not_mem_nil,or_false] at hb
  rcases hb with rfl | rfl | rfl | rfl | rfl | rfl
  ·exact ⟨_,h1,fun v z=>by cases z⟩
  ·exact ⟨_,h2,fun v z=>by cases z⟩
  ·exact ⟨_,h3,fun v z=>by cases z⟩
  ·exact ⟨o4,h4,fun v z=>by rw [d4] at z;cases z⟩
  ·exact ⟨o5,h5,fun v z=>by rw [d5] at z;cases z⟩
  ·exact ⟨o6,h6,fun v z=>by rw [d6] at z;cases z⟩
 keep:=fun i h h' st k=>by
  obtain ⟨h1,h2,⟨u,v,t,h3⟩,h4,h5,h6⟩:=st
  exact ⟨k z (by simp) _ h1,k TI (by simp) _ h2,⟨u,v,t,k TO (by simp) _ h3⟩,h4.at fun o q=>k i1 (by simp) o q,h5.at fun o q=>k i2 (by simp) o q,h6.at fun o q=>k i3 (by simp) o q⟩
 item:=by
  intro X hP hw hK hc i pins s σ H E I hf st hg
  subst hP hw hK
  have nd:=D.nd
  simp only [List.nodup_cons,List.mem_cons,List.not_mem_nil,or_false,not_or,not_false_eq_true,List.nodup_nil,and_true] at nd
  obtain ⟨⟨zTI,zTO,zi1,zi2,zi3⟩,⟨TITO,TIi1,TIi2,TIi3⟩,⟨TOi1,TOi2,TOi3⟩,⟨i12,i13⟩,i23⟩:=nd
  obtain ⟨h1,h2,⟨u0,v0,t0,h3⟩,h4,h5,h6⟩:=st
  obtain ⟨xs,ys,zs,x,y,y3,hqa,hqb,hqc,hx,hy,hy3⟩:=hg
  obtain ⟨its,rv,p,hz⟩:=I.list hqa
  obtain ⟨jts,rw',p',hz'⟩:=I.list hqb
  obtain ⟨kts,rx',p3,hz3⟩:=I.list hqc
  obtain ⟨u,hu,ru⟩:=rv.get hx
  obtain ⟨v,hv,rv'⟩:=rw'.get hy
  obtain ⟨t,ht,rt'⟩:=rx'.get hy3
  have e1:=Heap.lt_size h1
  have fpo:∀ e∈[z,TI,TO,i1,i2,i3],∃ o,s.heap.get? e=some o:=fun e hb=>by
   obtain ⟨o4,q4,_⟩:=h4
   obtain ⟨o5,q5,_⟩:=h5
   obtain ⟨o6,q6,_⟩:=h6
   simp only [List.mem_cons,List.not_mem_nil,or_false] at hb
   rcases hb with rfl | rfl | rfl | rfl | rfl | rfl
   ·exact ⟨_,h1⟩
   ·exact ⟨_,h2⟩
   ·exact ⟨_,h3⟩
   ·exact ⟨_,q4⟩
   ·exact ⟨_,q5⟩
   ·exact ⟨_,q6⟩
  refine pyNext3_item D h1 h2 h3 h4 h5 h6 p.isList p'.isList p3.isList (x:=u) (y:=v) (u:=t) (by simpa using hu) (by simpa using hv) (by simpa using ht) fun h' g1 g2 g3 g4 g4' g5 g6 g7=>⟨_,rfl,?_⟩
  refine wpAny_letOwnedTupleGo_zip g1 fun h2' g8 g9=>?_
  have kk:∀ e o,e∉[z,TI,TO,i1,i2,i3]→s.heap.get? e=some o→h2'.get? e=some o:=fun e o hb q=>by
   simp only [List.mem_cons,List.not_mem_nil,or_false,not_or] at hb
   exact g9.extBut e o hb.1 (g7 e o (by simp only [List.mem_cons,List.not_mem_nil,or_false,not_or];exact ⟨hb.1,hb.2.2.1,hb.2.2.2.1,hb.2.2.2.2.1,hb.2.2.2.2.2⟩) q)
  have tT:h2'.get? s.heap.objs.size=some {cls:=.type "tuple",data:=.seq #[u,v,t]}:=g9.extBut _ _ (Nat.ne_of_gt e1) g5
  have I1:=I.turnedNew (t':=s.toks) (T:=s.heap.objs.size) (o:=.tup [x,y,y3]) kk hf (Nat.le_refl _) ⟨by show 3≤sizeLine;decide,[u,v,t],.cons ru (.cons rv' (.cons rt' .nil)),⟨_,tT,rfl,_,rfl⟩⟩
  have hn:H s.heap.objs.size=none:=I.hok.fresh (Nat.le_refl _)
  refine ⟨.ref s.heap.objs.size,_,I1,rfl,⟨_,x,y,y3,rfl,hn,fun zs hy'=>by rw [I.list_inj hy' hqa];exact hx,fun zs hy'=>by rw [I.list_inj hy' hqb];exact hy,fun zs hy'=>by rw [I.list_inj hy' hqc];exact hy3,rfl⟩,⟨g8,?_,⟨u,v,t,?_⟩,?_,?_,?_⟩,fun e hb=>?_⟩
  ·exact g9.extBut _ _ (Ne.symm zTI) (g7 _ _ (by simp only [List.mem_cons,List.not_mem_nil,or_false,not_or];exact ⟨Ne.symm zTI,TITO,TIi1,TIi2,TIi3⟩) h2)
  ·exact g9.extBut _ _ (Ne.symm zTO) g2
  ·exact g3.extBut g9.extBut (Ne.symm zi1)
  ·exact g4.extBut g9.extBut (Ne.symm zi2)
  ·exact g4'.extBut g9.extBut (Ne.symm zi3)
  ·obtain ⟨f0,_⟩:=hf e hb
   obtain ⟨o,q⟩:=fpo e hb
   rw [upd_ne (Nat.ne_of_lt (Heap.lt_size q))];exact f0
 done:=by
  intro X hP hw hK hc i pins s σ H E I hf st hg
  subst hP hw hK
  obtain ⟨h1,h2,⟨u0,v0,t0,h3⟩,h4,h5,h6⟩:=st
  obtain ⟨xs,hqa,hx⟩:=hg
  obtain ⟨its,rv,p,hz⟩:=I.list hqa
  have hl:=rv.length
  refine pyNext3_end (I.ok.hd hc) D h1 h2 h3 h4 p.isList (by simp;omega) fun h' eb=>⟨rfl,I.turnedL (t':=s.toks) (ch:=[z,TI,TO,i1,i2,i3]) (fun e o hb q=>eb e o (fun z'=>hb ?_) q) hf⟩
  simp only [List.mem_cons,List.not_mem_nil,or_false] at z'⊢
  rcases z' with r | r | r | r | r <;> simp [r]
 self:=fun _ _ _ _ _ st h=>wpAny_pyIter_zip st.1 h
section
variable{X:Cx}{l l2 l3:Expr}{tl tl2 tl3:TE}{elts:List Expr}{p pos tpos:Pos}
noncomputable def iZip3(K:PySem.W.Frag)(tl tl2 tl3:TE):TI:=fun σ H R=>tl σ H fun x H1=>tl2 σ H1 fun y H2=>tl3 σ H2 fun u H3=>∃ a b c,x=.ref a∧y=.ref b∧u=.ref c∧(∃ xs,SqL K H3 a xs)∧(∃ ys,SqL K H3 b ys)∧(∃ zs,SqL K H3 c zs)∧R (Itz3 K a b c) H3
theorem pi_zip3{x1}(hg:Gl X "zip")(hm:X.mg "zip"=none)(hl:PE X l tl)(hl2:PE X l2 tl2)(hl3:PE X l3 tl3)(hs:starEach [l,l2,l3] X.env=[(false,eval l X.env),(false,eval l2 X.env),(false,eval l3 X.env)]:=by rfl)(hs2:starEach [l2,l3] X.env=[(false,eval l2 X.env),(false,eval l3 X.env)]:=by rfl) :
  PI X (.Tuple elts x1 tpos) (.Call (.Name "zip" p) [l,l2,l3] [] pos) (iZip3 X.K tl tl2 tl3):=by
 intro pins s σ H R I h
 refine Call_ (ld_blt I hg hm boot_zip (PyProof.Rows.callWith_type1 ?_ (by rw [hs,hs2]) (by rw [hs2];rfl)))
 rw [hs]
 show wpAny _ _ (spliced ((false,eval l X.env)::(false,eval l2 X.env)::(false,eval l3 X.env)::backTo pos (starEach [] X.env))) _ _ s
 refine Calls.spliced_cons (thn (hl pins s σ H _ I h) fun u s1 ⟨x,H1,I1,r1,q1⟩=>Calls.spliced_cons (thn (hl2 pins s1 σ H1 _ I1 q1) fun u2 s2 ⟨y,H2,I2,r2,q2⟩=>Calls.spliced_cons (thn (hl3 pins s2 σ H2 _ I2 q2) fun u3 s3 ⟨y3,H3,I3,r3,q3⟩=>Calls.spliced_nil ?_)))
 obtain ⟨a,b,c,rfl,rfl,rfl,⟨xs,hqa⟩,⟨ys,hqb⟩,⟨zs,hqc⟩,q⟩:=q3
 cases r1
 cases r2
 cases r3
 obtain ⟨its,rv,pl,hz⟩:=I3.list hqa
 obtain ⟨jts,rv',pl',hz'⟩:=I3.list hqb
 obtain ⟨kts,rv3,pl3,hz3⟩:=I3.list hqc
 have la:a<s3.heap.objs.size:=by obtain ⟨_,e,_⟩:=pl.isList;exact Heap.lt_size e
 have lb:b<s3.heap.objs.size:=by obtain ⟨_,e,_⟩:=pl'.isList;exact Heap.lt_size e
 have lc:c<s3.heap.objs.size:=by obtain ⟨_,e,_⟩:=pl3.isList;exact Heap.lt_size e
 refine call_zip_3 pl.isList pl'.isList pl3.isList fun h' g1 g2 g3 g4 g5 g6 g7=>?_
 have D:=zd_new la lb lc
 have T:=turn_zip3 (P:=X.prog) (w:=X.w) (K:=X.K) (elts:=elts) (x1:=x1) (pos:=tpos) a b c _ _ _ _ _ _ D
 refine T.self _ 0 _ _ _ ⟨g1,g2,⟨_,_,_,g3⟩,g4,g5,g6⟩ ?_
 refine ⟨s3.heap.objs.size+5,_,_,_,H3,rfl,I3.kept (t':=s3.toks) g7,T,⟨g1,g2,⟨_,_,_,g3⟩,g4,g5,g6⟩,fun e hb=>?_,q⟩
 have hb':s3.heap.objs.size≤e:=by
  simp only [List.mem_cons,List.not_mem_nil,or_false] at hb
  rcases hb with rfl | rfl | rfl | rfl | rfl | rfl
  ·exact Nat.le_add_right _ _
  ·exact Nat.le_add_right _ _
  ·exact Nat.le_add_right _ _
  ·exact Nat.le_refl _
  ·exact Nat.le_add_right _ _
  ·exact Nat.le_add_right _ _
 exact I3.fpOk hb' (I3.hok.fresh hb')
end
theorem for_zip3{K:PySem.W.Frag}{a b c:Addr}{xs ys zs:List V}{g:TG}{tb:TS}{D:Ends}{σ:St}{H:Hp}(Pv:Nat→St→Hp→Prop)(hlen:xs.length=ys.length)(hlen2:xs.length=zs.length)(h0:Pv 0 σ H)(hl:∀ i σ H,i≤xs.length→Pv i σ H→SqL K H a xs∧SqL K H b ys∧SqL K H c zs)
  (hs:∀ i x y u σ H t,xs[i]?=some x→ys[i]?=some y→zs[i]?=some u→Pv i σ H→H t=none→g (.ref t) σ (upd H t (.tup [x,y,u])) fun σ2 H2=>tb {D with nx:=Pv (i+1),ct:=Pv (i+1),bk:=D.nx} σ2 H2) (hd:∀ σ H,Pv xs.length σ H→D.nx σ H) :
  ∃ W:Nat→Nat→St→Hp→Prop,(∃ m,W 0 m σ H)∧∀ i m σ H,W i m σ H→
   ((Itz3 K a b c).stop i H∧D.nx σ H)∨((Itz3 K a b c).go i H∧∃ N:St→Hp→Prop,(∀ σ' H',N σ' H'→∃ m',m'<m∧W (i+1) m' σ' H')∧∀ x H',(Itz3 K a b c).yld i H x H'→g x σ H' fun σ2 H2=>tb {D with nx:=N,ct:=N,bk:=D.nx} σ2 H2):=by
 refine ⟨fun i m σ H=>m=xs.length - i∧i≤xs.length∧Pv i σ H,⟨xs.length,by simp,Nat.zero_le _,h0⟩,?_⟩
 rintro i m σ H ⟨rfl,hi,p⟩
 obtain ⟨q1,q2,q3⟩:=hl i σ H hi p
 by_cases hlt:i<xs.length
 ·have e1:xs[i]?=some xs[i]:=by simp [hlt]
  have e2:ys[i]?=some (ys[i]'(by omega)):=by simp
  have e3:zs[i]?=some (zs[i]'(by omega)):=by simp
  refine .inr ⟨⟨xs,ys,zs,_,_,_,q1,q2,q3,e1,e2,e3⟩,Pv (i+1),fun σ' H' p'=>⟨xs.length - (i+1),by omega,rfl,hlt,p'⟩,fun v H' y=>?_⟩
  obtain ⟨t,x,y,u,rfl,ht,y1,y2,y3,rfl⟩:=y
  exact hs i x y u σ H t (y1 xs q1) (y2 ys q2) (y3 zs q3) p ht
 ·have e:i=xs.length:=by omega
  subst e
  exact .inl ⟨⟨xs,q1,Nat.le_refl _⟩,hd σ H p⟩
theorem comp_zipL{K:PySem.W.Frag}{a b:Addr}{xs ys:List V}{G:V→Hp→(List V→Hp→Prop)→List V→Prop}{Fin:List V→Hp→Prop}{H:Hp}(Pv:Nat→List V→Hp→Prop)(hlen:xs.length≤ys.length)(h0:Pv 0 [] H)
  (hl:∀ i zs H,i≤xs.length→Pv i zs H→SqL K H a xs∧SqL K H b ys) (hz:∀ i zs H,i<xs.length→Pv i zs H→zs.length<sizeLine)
  (hs:∀ i x y zs H t,xs[i]?=some x→ys[i]?=some y→Pv i zs H→H t=none→G (.ref t) (upd H t (.tup [x,y])) (Pv (i+1)) zs) (hd:∀ zs H,Pv xs.length zs H→Fin zs H) :
  ∃ W:Nat→Nat→List V→Hp→Prop,(∃ m,W 0 m [] H)∧∀ i m zs H,W i m zs H→
   ((Itz K a b).stop i H∧Fin zs H)∨((Itz K a b).go i H∧zs.length<sizeLine∧∃ Nx:List V→Hp→Prop,(∀ ys' H',Nx ys' H'→∃ m',m'<m∧W (i+1) m' ys' H')∧∀ x H',(Itz K a b).yld i H x H'→G x H' Nx zs):=by
 refine ⟨fun i m zs H=>m=xs.length - i∧i≤xs.length∧Pv i zs H,⟨xs.length,by simp,Nat.zero_le _,h0⟩,?_⟩
 rintro i m zs H ⟨rfl,hi,p⟩
 obtain ⟨q1,q2⟩:=hl i zs H hi p
 by_cases hlt:i<xs.length
 ·have e1:xs[i]?=some xs[i]:=by simp [hlt]
  have e2:ys[i]?=some (ys[i]'(by omega)):=by simp
  refine .inr ⟨⟨xs,ys,_,_,q1,q2,e1,e2⟩,hz i zs H hlt p,Pv (i+1),fun ys' H' p'=>⟨xs.length - (i+1),by omega,rfl,hlt,p'⟩,fun v H' y=>?_⟩
  obtain ⟨t,x,y,rfl,ht,y1,y2,rfl⟩:=y
  exact hs i x y zs H t (y1 xs q1) (y2 ys q2) p ht
 ·have e:i=xs.length:=by omega
  subst e
  exact .inl ⟨⟨xs,ys,q1,q2,.inl (Nat.le_refl _)⟩,hd zs H p⟩
end L2
namespace Hv
open PySem L2
noncomputable abbrev wz(ds:List Nat)(ws:List Int):List Int:=List.zipWith (fun (d:Nat) (x:Int)=>(d:Int)*x) ds ws
theorem wz_get{ds:List Nat}{ws:List Int}{i d:Nat}{x:Int}(h1:ds[i]?=some d)(h2:ws[i]?=some x):(wz ds ws)[i]?=some ((d:Int)*x):=by
 simp [wz,List.getElem?_zipWith,h1,h2]
theorem int_at{ws:List Int}{i:Nat}{x:V}(h:(ws.map V.int)[i]?=some x):∃ y:Int,ws[i]?=some y∧x=.int y:=by
 rw [List.getElem?_map] at h
 cases e:ws[i]? with
 | none=>rw [e] at h;cases h
 | some d=>rw [e] at h;exact ⟨d,rfl,(Option.some.inj h).symm⟩
noncomputable def spWeighted:Sp:=fun vs H Q _=>∃ (r c:Addr) (ds:List Nat) (ws:List Int),vs=[.ref r,.ref c]∧H r=some (.lst (natV ds))∧H c=some (.lst (ws.map V.int))∧(∀ x∈ws,-9≤x∧x≤9)∧ds.length≤ws.length∧ws.length≤6∧
 ∀ H',Same H H'→Q (.int (wz ds ws).sum) H'
section
variable{P:Program}{w:World}{K:PySem.W.Frag}{mg:Str→Option Value}{base:Heap}
theorem scWeighted:FnScope ["figures","weights"] ["figures","weights"] (defScope sWeighted):=⟨rfl,rfl,rfl,by decide +kernel,rfl,by decide +kernel,by decide +kernel⟩
theorem ok_weighted{f:Addr}{fd:FuncData}(F:Fun K "weighted_sum" "weighted_sum" sWeighted f fd)(T:Txt mg):FnOk P w K mg base CX0 1 f fd ["figures","weights"] spWeighted:=by
 refine F.ok scWeighted (fun vs H Q E h=>?_) (fun cdv A outer s H vs Q E hr h=>?_)
 ·obtain ⟨r,c,ds,ws,rfl,_⟩:=h;rfl
 ·obtain ⟨r,c,ds,ws,rfl,h1,h2,hw,hl,hl6,k⟩:=h
  have nd2:List.Nodup (["figure","weight"]:List Str):=by decide +kernel
  refine ⟨_,pss_one (ps_ret (pe_callB (call_sumA rfl) (by rfl) T.sum boot_sum (pa_cons (pe_comp (N:=["figure","weight"]) (k:=2) (fr:=[]) (cmpS (sc:=defScope sWeighted) (NX:=["figures","weights"]) (k:=2) (fr:=[]) rfl rfl (by decide +kernel))
    (cmpF (sc:=defScope sWeighted) (NX:=["figures","weights"]) rfl (by decide +kernel)) rfl (pi_zip (by rfl) T.zip (pv 0) (pv 1))
    (fun cl C s H fp=>pg_tupK K rfl rfl (pgs_cons (pg_name (i:=0) nd2 rfl (Or.inl rfl)) (pgs_cons (pg_name (i:=1) nd2 rfl (Or.inl rfl)) pgs_nil))) gk_two (fun cl C s H fp=>pf_nil) (fun cl C s H fp=>pe_op op_mul (pv 0) (pv 1))) pa_nil))),?_⟩
  refine ⟨_,rfl,_,rfl,r,c,rfl,rfl,⟨_,SqL.of h1⟩,⟨_,SqL.of h2⟩,comp_zipL (K:=K) (a:=r) (b:=c) (xs:=natV ds) (ys:=ws.map V.int)
   (fun i zs H'=>zs=((wz ds ws).take i).map V.int∧Same H H') (by simp [natV];omega) ⟨by simp,Same.refl _⟩ (fun i zs H' _ p=>⟨SqL.of (p.2 _ _ h1),SqL.of (p.2 _ _ h2)⟩)
   (fun i zs H' hi p=>szl (by rw [p.1,List.length_map,List.length_take];simp [natV] at hi;omega)) ?_ ?_⟩
  ·rintro i x y zs H' t hx hy ⟨rfl,s2⟩ ht
   obtain ⟨d,hd,rfl⟩:=nat_at hx
   obtain ⟨x,hw',rfl⟩:=int_at hy
   have hx9:=hw x (List.mem_of_getElem? hw')
   refine ⟨t,_,rfl,SqT.of upd_same,rfl,_,_,rfl,_,_,rfl,rfl,_,rfl,_,rfl,_,_,rfl,rfl,.inr ⟨by omega,by omega⟩,?_,same_upd2 s2 (s2.free ht)⟩
   rw [List.take_add_one,wz_get hd hw']
   simp
  rintro zs H' ⟨rfl,s2⟩ wl hwl
  have e1:(natV ds).length=(wz ds ws).length:=by simp [natV,wz];omega
  rw [e1,List.take_length]
  exact ⟨wl,_,rfl,SqL.of upd_same,k _ (same_upd2 s2 (s2.free hwl))⟩
end
end Hv
namespace Hv
open PySem L2
theorem wz_ws1{b q j:Nat}{ws:List Int}(hj:j≤ws.length):(wz (Ma.dws b q j j) ws).sum=Mg.ws1 b q (ws.take j):=by
 unfold Mg.ws1 Ma.wts
 rw [List.length_take,Nat.min_eq_left hj]
 congr 1
 have e:ws=ws.take j++ws.drop j:=(List.take_append_drop j ws).symm
 conv=>lhs;rw [e]
 unfold wz
 rw [← List.append_nil (Ma.dws b q j j),List.zipWith_append (by rw [Ma.dws_len,List.length_take,Nat.min_eq_left hj])]
 simp
theorem ws1_in{b q:Nat}{r:List Int}(hb0:0<b)(hb:b≤16)(hw:∀ x∈r,-9≤x∧x≤9) : -(135*(r.length:Int))≤Mg.ws1 b q r∧Mg.ws1 b q r≤135*(r.length:Int):=by
 unfold Mg.ws1
 have gen:∀ l:List Int,(∀ y∈l,-135≤y∧y≤135)→-(135*(l.length:Int))≤l.sum∧l.sum≤135*(l.length:Int):=fun l=>by
  induction l with
  | nil=>intro _;simp
  | cons a t ih =>
   intro h
   have h1:=h a (by simp)
   have h2:=ih fun y hy=>h y (by simp [hy])
   simp only [List.sum_cons,List.length_cons]
   push_cast
   omega
 have g:=gen (Ma.wts b q r.length r) fun y hy=>by
  unfold Ma.wts at hy
  obtain ⟨i,hi⟩:=List.getElem?_of_mem hy
  rw [List.getElem?_zipWith] at hi
  cases e1:(Ma.dws b q r.length r.length)[i]? with
  | none=>rw [e1] at hi;simp at hi
  | some d =>
   cases e2:r[i]? with
   | none=>rw [e1,e2] at hi;simp at hi
   | some x =>
    rw [e1,e2] at hi
    have hy':y=(d:Int)*x:=by simpa using hi.symm
    have hd:=Ma.dws_lt hb0 (List.mem_of_getElem? e1)
    have hx:=hw x (List.mem_of_getElem? e2)
    have:=Me.step_in (m:=0) (x:=0) (w:=x) (d:=d) (b:=b) ⟨by decide,by decide⟩ hx hb hd
    rw [hy']
    omega
 rw [Ma.wts_len _ _ _ _ rfl] at g
 exact g
noncomputable def RowsD(H:Hp)(b j q:Nat)(rs:List Addr):Prop:=∀ k a,rs[k]?=some a→H a=some (.lst (natV (Ma.dws b (q+k) j j)))∧q+k<b ^ j
theorem RowsD.keep{H H':Hp}{b j q:Nat}{rs:List Addr}(h:RowsD H b j q rs)(s:Same H H'):RowsD H' b j q rs:=fun k a e=>⟨s _ _ (h k a e).1,(h k a e).2⟩
noncomputable def spWorthFrom:Sp:=fun vs H Q _=>∃ (b:Nat) (rl c tl:Addr) (rs ts:List Addr) (ws:List Int) (q j:Nat),vs=[.int b,.ref rl,.ref c,.ref tl]∧H rl=some (.lst (rs.map V.ref))∧H c=some (.lst (ws.map V.int))∧H tl=some (.lst (ts.map V.ref))∧ts.length=ws.length+1∧TailsT H b ts ws∧
 2≤b∧b≤16∧(∀ x∈ws,-9≤x∧x≤9)∧ws.length≤6∧j≤ws.length∧RowsD H b j q rs∧
 ∀ (p:Addr) (kvs:List (Key×V)) (h:Mu.Tri) (H':Hp),H p=none→Same H H'→H' p=some (.dK kvs)→PT H' kvs h→Mu.Rep h 810 (q*b ^ (ws.length - j)) (rs.length*b ^ (ws.length - j)) (fun n=>Mg.ws1 b n ws) (fun _=>1)→Q (.ref p) H'
theorem w_step(n v S bw A B:Int):S+(n*A+(v+bw*n)*B)=S+(n*(A+bw*B)+v*B):=by
 have e1:bw*n*B=n*(bw*B):=by rw [Int.mul_comm bw n,Int.mul_assoc]
 rw [Int.add_mul,e1,Int.mul_add]
 omega
section
variable{P:Program}{w:World}{K:PySem.W.Frag}{mg:Str→Option Value}{base:Heap}
theorem scWorthFrom:FnScope ["base","rows","weights","tails","by_sums","stands","row","begun","begun_worth","tail","total","ways"] ["base","rows","weights","tails"] (defScope sWorthFrom):=⟨rfl,rfl,rfl,by decide +kernel,rfl,by decide +kernel,by decide +kernel⟩
theorem ok_worthfrom{f:Addr}{fd:FuncData}(F:Fun K "worth_from_beginnings" "worth_from_beginnings" sWorthFrom f fd)(T:Txt mg)(DA:Def P w K mg base 1 "add_rows" ["by_sums","total","ways","worth"] spAddT)(DS:Def P w K mg base 1 "stands_of" ["base","length"] spStands)
  (DW:Def P w K mg base 1 "weighted_sum" ["figures","weights"] spWeighted) (DN:Def P w K mg base 1 "number_of" ["base","figures"] spNumberOf):FnOk P w K mg base CX0 2 f fd ["base","rows","weights","tails"] spWorthFrom:=by
 refine F.ok scWorthFrom (fun vs H Q E h=>?_) (fun cdv A outer s H vs Q E hr h=>?_)
 ·obtain ⟨b,rl,c,tl,rs,ts,ws,q,j,rfl,_⟩:=h;rfl
 ·obtain ⟨b,rl,c,tl,rs,ts,ws,q,j,rfl,hrl,hc,htl,hts,TT,hb2,hb,hw,hl6,hj,RD,k⟩:=h
  have nd:=scWorthFrom.nd
  have hu:=hu_of hr
  refine ⟨_,pss_cons (ps_set (i:=4) nd rfl (Or.inl rfl) pe_dnewK)
   (pss_cons (ps_set (i:=5) nd rfl (Or.inl rfl) (pe_fn DS (hr.mono (by decide)) (by rfl) (pa_cons (pv 0) (pa_cons (lenS T.len (by rfl) (pv 2)) pa_nil))))
   (pss_cons (ps_for PassesOwn.never rfl (pi_list (pv 1)) (pg_name (i:=6) nd rfl (Or.inl rfl))
    (pss_cons (ps_set (i:=7) nd rfl (Or.inl rfl) (pe_fn DW (hr.mono (by decide)) (by rfl) (pa_cons (pv 6) (pa_cons (pv 2) pa_nil))))
    (pss_cons (ps_set (i:=8) nd rfl (Or.inl rfl) (pe_op op_mul (pe_fn DN (hr.mono (by decide)) (by rfl) (pa_cons (pv 0) (pa_cons (pv 6) pa_nil))) (ixl (pv 5) (pe_op op_sub (lenS T.len (by rfl) (pv 2)) (lenS T.len (by rfl) (pv 6))))))
    (pss_cons (ps_set (i:=9) nd rfl (Or.inl rfl) (ixl (pv 3) (lenS T.len (by rfl) (pv 6))))
    (pss_cons (ps_for PassesOwn.never rfl (pi_dict (pv 9)) (pg_name (i:=10) nd rfl (Or.inl rfl))
     (pss_cons (ps_set (i:=11) nd rfl (Or.inl rfl) (ixt (pe_dget hu (pv 9) (pv 10) (fun _ _=>rfl)) pe_int))
     (pss_one (ps_expr (pe_fn DA (hr.mono (by decide)) (by rfl) (pa_cons (pv 4) (pa_cons (pe_op op_add (pv 7) (pv 10)) (pa_cons (pv 11) (pa_cons (pe_op op_add (ixt (pe_dget hu (pv 9) (pv 10) (fun _ _=>rfl)) pe_int) (pe_op op_mul (pv 8) (pv 11))) pa_nil)))))))))
    (pss_thaw pss_nil))))))
   (pss_one (ps_ret (pv 4))))),?_⟩
  intro p hp
  have s0:Same H (upd H p (.dK [])):=same_upd hp
  have u0:(upd H p (.dK [])) p=some (.dK []):=upd_same
  generalize upd H p (.dK [])=H0 at s0 u0⊢
  refine ⟨_,rfl,_,rfl,c,_,rfl,.inl (SqL.of (s0 _ _ hc)),b,ws.length,by simp,hb,hl6,fun sl H1 hsl s1 hs1=>?_⟩
  have S1:=s0.trans s1
  have b0:0<b:=by omega
  obtain ⟨r2,hr2⟩:∃ r,r=ws.drop j:=⟨_,rfl⟩
  have el2:r2.length=ws.length - j:=by rw [hr2,List.length_drop]
  have ews:ws.take j++r2=ws:=by rw [hr2];exact List.take_append_drop j ws
  have start:Mu.Rep [] 810 (q*b ^ (ws.length - j)) (0*b ^ (ws.length - j)) (fun n=>Mg.ws1 b n ws) (fun _=>1):=⟨Mu.OkT.nil,fun A B=>by rw [Nat.zero_mul];rfl⟩
  refine ⟨_,rfl,rl,rfl,⟨_,SqL.of (S1 _ _ hrl)⟩,for_list (K:=K) (a:=rl) (xs:=rs.map V.ref) (fun i σ H2=>∃ v6 v7 v8 v9 v10 v11,σ=[some (.int b),some (.ref rl),some (.ref c),some (.ref tl),some (.ref p),some (.ref sl),v6,v7,v8,v9,v10,v11]∧Same H H2∧H2 sl=some (.lst ((powL b ws.length).map V.int))∧∃ kl hl',H2 p=some (.dK kl)∧PT H2 kl hl'∧Mu.Rep hl' 810 (q*b ^ (ws.length - j)) (i*b ^ (ws.length - j)) (fun n=>Mg.ws1 b n ws) (fun _=>1))
   ⟨none,none,none,none,none,none,rfl,S1,hs1,[],[],s1 _ _ u0,.nil,start⟩ (fun i σ H2 _ h=>by obtain ⟨_,_,_,_,_,_,_,z,_⟩:=h;exact SqL.of (z _ _ hrl)) ?_ ?_⟩
  ·rintro i x σ H2 hx ⟨v6,v7,v8,v9,v10,v11,rfl,s2,sl2,kl,h0,p2,pt2,R2⟩
   obtain ⟨ra,hra,rfl⟩:∃ ra,rs[i]?=some ra∧x=.ref ra:=by
    rw [List.getElem?_map] at hx
    cases e:rs[i]? with
    | none=>rw [e] at hx;cases hx
    | some d=>rw [e] at hx;exact ⟨d,rfl,(Option.some.inj hx).symm⟩
   obtain ⟨hrow,hlt⟩:=RD i ra hra
   refine ⟨_,rfl,_,rfl,ra,c,_,ws,rfl,s2 _ _ hrow,s2 _ _ hc,hw,by rw [Ma.dws_len];exact hj,hl6,fun H3 s3=>?_⟩
   rw [wz_ws1 hj]
   have S3:=s2.trans s3
   have en:(((ws.map V.int).length:Nat):Int) - (((natV (Ma.dws b (q+i) j j)).length:Nat):Int)=((ws.length - j:Nat):Int):=by
    rw [List.length_map,natV,List.length_map,Ma.dws_len];omega
   have er:(((natV (Ma.dws b (q+i) j j)).length:Nat):Int)=(j:Int):=by rw [natV,List.length_map,Ma.dws_len]
   have est:atI ((powL b ws.length).map V.int) ((ws.length - j:Nat):Int)=some (.int ((b ^ (ws.length - j):Nat):Int)):=atI_nat (by rw [List.getElem?_map,powL_at (by omega)];rfl)
   obtain ⟨t,kvs,h,e1,e2,e3,R⟩:=TT j hj
   have ett:atI (ts.map V.ref) (j:Int)=some (.ref t):=atI_nat (by rw [List.getElem?_map,e1];rfl)
   have hpw:b ^ (ws.length - j)≤16 ^ 6:=Nat.le_trans (Nat.pow_le_pow_left hb _) (Nat.pow_le_pow_right (by decide) (by omega))
   have h16:(16:Nat) ^ 6=16777216:=by decide
   refine ⟨_,rfl,_,rfl,b,ra,_,rfl,hb,S3 _ _ hrow,_,rfl,_,rfl,c,_,rfl,.inl (SqL.of (S3 _ _ hc)),_,rfl,ra,_,rfl,.inl (SqL.of (S3 _ _ hrow)),_,_,rfl,rfl,?_⟩
   refine ⟨sl,_,(((ws.map V.int).length:Nat):Int) - (((natV (Ma.dws b (q+i) j j)).length:Nat):Int),_,rfl,rfl,SqL.of (s3 _ _ sl2),by rw [en];exact est,_,_,rfl,rfl,.inr ⟨by omega,by omega⟩,?_⟩
   rw [Ma.num_dws b0 hlt]
   refine ⟨_,rfl,_,rfl,ra,_,rfl,.inl (SqL.of (S3 _ _ hrow)),?_⟩
   refine ⟨tl,_,(((natV (Ma.dws b (q+i) j j)).length:Nat):Int),_,rfl,rfl,SqL.of (S3 _ _ htl),by rw [er];exact ett,?_⟩
   have p3:=s3 _ _ p2
   have pt3:=PT.keep pt2 s3
   have sl3:=s3 _ _ sl2
   have t3:=S3 _ _ e2
   have ntp:t≠p:=ne_of_none e2 hp
   rw [← hr2] at R
   have R:RepA h (135*((ws.length - j:Nat):Int)) b r2:=R
   have ebw:((fun i j=>V.int (i*j)) (((q+i:Nat):Int)) (((b ^ (ws.length - j):Nat):Int)))=V.int ((((q+i)*b ^ r2.length:Nat):Int)):=by rw [el2];push_cast;rfl
   rw [ebw]
   refine ⟨_,rfl,t,kvs,rfl,t3,fun o=>for_dict (fun m σ H4=>∃ v10 v11,σ=[some (.int b),some (.ref rl),some (.ref c),some (.ref tl),some (.ref p),some (.ref sl),some (.ref ra),some (.int (Mg.ws1 b (q+i) (ws.take j))),some (.int (((q+i)*b ^ r2.length:Nat):Int)),some (.ref t),v10,v11]∧H4 t=some (.frz o (.dK kvs))∧Kp [t] H H4∧H4 sl=some (.lst ((powL b ws.length).map V.int))∧∃ kl hl',H4 p=some (.dK kl)∧PT H4 kl hl'∧Mu.OkT hl' 810∧∀ A B,Mu.TT hl' A B=Mu.TT h0 A B+Mu.TT (h.take m) (fun x=>A (Mg.ws1 b (q+i) (ws.take j)+x)+(((q+i)*b ^ r2.length:Nat):Int)*B (Mg.ws1 b (q+i) (ws.take j)+x)) (fun x=>B (Mg.ws1 b (q+i) (ws.take j)+x)))
    ⟨v10,v11,rfl,upd_same,kp_upd (Kp.of S3) (.inl (by simp)),?_,kl,h0,?_,?_,R2.ok,fun A B=>by simp [Mu.TT]⟩ (fun m σ H4 _ h=>by obtain ⟨_,_,_,z,_⟩:=h;exact z) ?_ ?_⟩
   ·rw [upd_ne (fun z=>by rw [z,t3] at sl3;cases sl3)];exact sl3
   ·rw [upd_ne ntp.symm];exact p3
   ·exact PT.kp pt3 (kp_upd Kp.refl (.inl (by simp))) t3 (fun xs z=>nomatch z)
   ·rintro m kk v σ H4 hk ⟨v10,v11,rfl,ft,kp4,sl4,kl4,h4,p4,pt4,ok4,eq4⟩
    obtain ⟨pr,hpr,hkk,_⟩:=Paired.at e3 hk
    have hkk':kk=Sum.inl pr.1:=hkk
    subst hkk'
    have pm:=List.mem_of_getElem? hpr
    have pb:=R.ok.bd pr.1 (List.mem_map.mpr ⟨pr,pm,rfl⟩)
    have pe:=RepA.ent R hb (by omega) pm
    have pd2:PT H4 kvs h:=PT.kp e3 kp4 e2 (fun xs z=>nomatch z)
    obtain ⟨tu,et,ht⟩:∃ tu,valV kvs (Sum.inl pr.1)=some (.ref tu)∧H4 tu=some (.tup [.int pr.2.1,.int pr.2.2]):=by
     rcases PT.val pr.1 pd2 with ⟨a1,a2⟩ | ⟨m,x,a1,a2,a3⟩
     ·rw [Mu.look_memT R.ok.nd pm] at a2;cases a2
     ·rw [Mu.look_memT R.ok.nd pm] at a1
      cases a1
      exact ⟨x,a2,a3⟩
    have dg:DGet H4 t (.int pr.1) (some (.ref tu)):=.inl ⟨kvs,Sum.inl pr.1,.inr ⟨o,ft⟩,rfl,et.symm⟩
    have hlen:=Mu.OkT.len (m:=810) ok4
    have bg:=ws1_in (b:=b) (q:=q+i) (r:=ws.take j) b0 hb fun x hx=>hw x (List.mem_of_mem_take hx)
    have blen:(ws.take j).length=j:=by rw [List.length_take];omega
    rw [blen] at bg
    refine ⟨_,rfl,_,rfl,t,.ref tu,rfl,dg,tu,_,0,_,rfl,rfl,SqT.of ht,rfl,?_⟩
    refine ⟨_,rfl,_,rfl,_,rfl,_,_,rfl,rfl,_,rfl,_,rfl,_,rfl,t,.ref tu,rfl,dg,tu,_,1,_,rfl,rfl,SqT.of ht,rfl,_,rfl,_,rfl,_,_,rfl,rfl,.inr ⟨by omega,by omega⟩,_,_,rfl,rfl,?_⟩
    refine ⟨p,kl4,h4,_,_,_,rfl,p4,pt4,by omega,fun kvs' H5 h5 pd5 kp5=>⟨_,_,rfl,?_,?_,?_,kvs',_,h5,pd5,?_,fun A B=>?_⟩⟩
    ·exact kp5 _ _ ft (by simpa using ntp)
    ·intro x ob e n
     have hxl:x≠p:=ne_of_none e hp
     exact kp5 _ _ (kp4 _ _ e n) (by simpa using hxl)
    ·refine kp5 _ _ sl4 (fun z=>?_)
     have z':sl=p:=by simpa using z
     rw [z',p4] at sl4;cases sl4
    ·exact ok4.add (by omega)
    ·rw [Mu.TT_add ok4.nd,eq4 A B,Mu.TT_take hpr]
     exact (w_step _ _ _ _ _ _).trans (Int.add_assoc _ _ _)
   ·rintro σ H4 ⟨v10,v11,rfl,ft,kp4,sl4,kl4,h4,p4,pt4,ok4,eq4⟩
    have el:kvs.length=h.length:=PT.len e3
    rw [el,List.take_length] at eq4
    refine ⟨t,o,kvs,ft,(fun o' u z=>by
     have z':H t=some (.frz o' u):=z
     rw [e2] at z';cases z'),_,_,_,_,_,_,rfl,fun x ob e=>?_,?_,kl4,h4,?_,PT.tups pt4 fun tt xs e=>?_,?_⟩
    ·by_cases hx:x=t
     ·rw [hx,upd_same,← e2,← hx];exact e
     ·rw [upd_ne hx];exact kp4 x ob e (by simpa using hx)
    ·rw [upd_ne (fun z=>by rw [z,ft] at sl4;cases sl4)];exact sl4
    ·rw [upd_ne ntp.symm];exact p4
    ·have hx:tt≠t:=fun z=>by rw [z,ft] at e;cases e
     rw [upd_ne hx];exact e
    ·rw [← el2] at R2⊢
     have R2':Mu.Rep h0 810 (q*b ^ r2.length) (i*b ^ r2.length) (fun n=>Mg.ws1 b n (ws.take j++r2)) fun _=>1:=by rw [ews];exact R2
     have:=Mu.Rep.more (h':=h4) (m':=810) b0 R2' (q:=q+i) (by rw [Nat.add_mul]) R ok4 eq4
     rw [ews] at this
     rw [Nat.add_mul,Nat.one_mul]
     exact this
  ·rintro σ H2 ⟨v6,v7,v8,v9,v10,v11,rfl,s2,sl2,kl,h0,p2,pt2,R2⟩
   rw [List.length_map] at R2
   exact ⟨_,rfl,k p kl h0 H2 hp s2 p2 pt2 R2⟩
end
end Hv
namespace Mu
open Me Mg
theorem dig{b x m t:Nat}(ht:t<m):x % b ^ m / b ^ (m - 1 - t) % b=x / b ^ (m - 1 - t) % b:=by
 have e:b ^ m=b ^ (m - 1 - t)*(b*b ^ t):=by
  rw [← Nat.pow_succ',← Nat.pow_add]
  congr 1
  omega
 rw [e,Nat.mod_mul_right_div_self,Nat.mod_mul_right_mod]
theorem dws_at{b n L i:Nat}(h:i<L):(Ma.dws b n L L)[i]?=some (n / b ^ (L - 1 - i) % b):=by
 unfold Ma.dws
 rw [List.getElem?_map,List.getElem?_range h]
 rfl
theorem dws_cut{b a pl o l:Nat}(h:o+l≤pl):((Ma.dws b a pl pl).drop o).take l=Ma.dws b (a / b ^ (pl - o - l) % b ^ l) l l:=by
 apply List.ext_getElem?
 intro t
 by_cases ht:t<l
 ·rw [List.getElem?_take_of_lt ht,List.getElem?_drop,dws_at (by omega),dws_at ht,dig ht,Nat.div_div_eq_div_mul,← Nat.pow_add]
  have:pl - 1 - (o+t)=pl - o - l+(l - 1 - t):=by omega
  rw [this]
 ·rw [List.getElem?_eq_none (by rw [List.length_take,List.length_drop,Ma.dws_len];omega),List.getElem?_eq_none (by rw [Ma.dws_len];omega)]
theorem dws_cut2{b a pl o l:Nat}(h:o≤pl)(h2:pl≤o+l):((Ma.dws b a pl pl).drop o).take l=Ma.dws b (a % b ^ (pl - o)) (pl - o) (pl - o):=by
 have e:((Ma.dws b a pl pl).drop o).take l=((Ma.dws b a pl pl).drop o).take (pl - o):=by
  rw [List.take_of_length_le (by rw [List.length_drop,Ma.dws_len];omega),List.take_of_length_le (by rw [List.length_drop,Ma.dws_len];omega)]
 rw [e,dws_cut (by omega)]
 have:pl - o - (pl - o)=0:=by omega
 rw [this,Nat.pow_zero,Nat.div_one]
theorem dws_cut3{b a pl o l:Nat}(h:pl≤o):((Ma.dws b a pl pl).drop o).take l=[]:=by
 rw [List.drop_of_length_le (by rw [Ma.dws_len];exact h)]
 simp
noncomputable def pj(pl o l:Nat):Nat:=if o+l≤pl then l else if o≤pl then pl - o+1 else 0
noncomputable def pq(b a pl o l:Nat):Nat:=if o+l≤pl then a / b ^ (pl - o - l) % b ^ l else if o≤pl then a % b ^ (pl - o)*b else 0
noncomputable def pn(pl e o l:Nat):Nat:=if o+l≤pl then 1 else if o≤pl then e else 1
theorem pj_le{pl o l:Nat}:pj pl o l≤l:=by
 unfold pj
 split
 ·exact Nat.le_refl _
 ·split <;> omega
end Mu
namespace Hv
open PySem L2
noncomputable def BegsAt(H:Hp)(p:Addr)(b a pl e:Nat)(ps:List Nat)(bs:List Addr):Prop:=∀ i l r,ps[i]?=some l→bs[i]?=some r→r≠p∧∃ rs,H r=some (.lst (rs.map V.ref))∧rs.length=Mu.pn pl e (ps.take i).sum l∧(∀ x∈rs,x≠p)∧RowsD H b (Mu.pj pl (ps.take i).sum l) (Mu.pq b a pl (ps.take i).sum l) rs
theorem BegsAt.up{H H':Hp}{p:Addr}{b a pl e:Nat}{ps:List Nat}{bs:List Addr}(h:BegsAt H p b a pl e ps bs)(k:∀ x o,H x=some o→x≠p→H' x=some o):BegsAt H' p b a pl e ps bs:=fun i l r h1 h2=>by
 obtain ⟨n1,rs,g1,g2,g3,g4⟩:=h i l r h1 h2
 exact ⟨n1,rs,k _ _ g1 n1,g2,g3,fun m x e=>⟨k _ _ (g4 m x e).1 (g3 x (List.mem_of_getElem? e)),(g4 m x e).2⟩⟩
noncomputable def spPartBegin:Sp:=fun vs H Q _=>∃ f A c b ps ws,∃ (hd:Addr) (a pl e:Nat),vs=[.ref f,.ref hd,.int e]∧FrAt H f A c b ps ws∧H hd=some (.lst (natV (Ma.dws b a pl pl)))∧e≤b∧pl≤24∧
 ∀ (p:Addr) (bs:List Addr) (H':Hp),H p=none→Same H H'→H' p=some (.lst (bs.map V.ref))→bs.length=ps.length→BegsAt H' p b a pl e ps bs→Q (.ref p) H'
section
variable{P:Program}{w:World}{K:PySem.W.Frag}{mg:Str→Option Value}{base:Heap}
theorem scPartBegin:FnScope ["frame","head","end","beginnings","start","length","given"] ["frame","head","end"] (defScope sPartBegin):=⟨rfl,rfl,rfl,by decide +kernel,rfl,by decide +kernel,by decide +kernel⟩
theorem ok_partbegin{f:Addr}{fd:FuncData}(F:Fun K "part_beginnings" "part_beginnings" sPartBegin f fd)(T:Txt mg):FnOk P w K mg base CX0 1 f fd ["frame","head","end"] spPartBegin:=by
 refine F.ok scPartBegin (fun vs H Q E h=>?_) (fun cdv A outer s H vs Q E hr h=>?_)
 ·obtain ⟨g,A,c,b,ps,ws,hd,a,pl,e,rfl,_⟩:=h;rfl
 ·obtain ⟨g,A',c,b,ps,ws,hd,a,pl,e,rfl,G,hhd,heb,hpl,k⟩:=h
  have nd:=scPartBegin.nd
  have ok:=G.ok
  have l4:=ok.l4
  have b2:=ok.b2
  refine ⟨_,pss_cons (ps_set (i:=3) nd rfl (Or.inl rfl) (pe_lst pa_nil))
   (pss_cons (ps_set (i:=4) nd rfl (Or.inl rfl) pe_int)
   (pss_cons (ps_for PassesOwn.never rfl (pi_list (ixt (pv 0) pe_int)) (pg_name (i:=5) nd rfl (Or.inl rfl))
    (pss_cons (ps_set (i:=6) nd rfl (Or.inr rfl) (pe_slice sl_list (pv 1) (po_some (pv 4)) (po_some (pe_op op_add (pv 4) (pv 5)))))
    (pss_cons (ps_if (pt_chain op_le op_lt (pv 4) (lenS T.len (by rfl) (pv 1)) (pe_op op_add (pv 4) (pv 5)))
     (pss_one (ps_expr (pe_bm PySem.F.plainAttrs_list PySem.F.slot_list_append PySem.F.type_list_append mt_append (pv 3) (pa_cons (pe_cmp1 (defScope sPartBegin) ["frame","head","end","beginnings","start","length","given"] ["given"] [6] rfl (pi_range1 (by rfl) T.range (pa_cons (pv 2) pa_nil)) (fun cl C s H fp=>pf_nil)
      (fun cl C s H fp=>pe_op op_cat (pv 1) (pe_lst (pa_cons (pv 0) pa_nil))) (by decide +kernel)) pa_nil))))
     (pss_one (ps_expr (pe_bm PySem.F.plainAttrs_list PySem.F.slot_list_append PySem.F.type_list_append mt_append (pv 3) (pa_cons (pe_lst (pa_cons (pv 6) pa_nil)) pa_nil)))))
    (pss_one (ps_set (i:=4) nd rfl (Or.inl rfl) (pe_op op_add (pv 4) (pv 5)))))))
   (pss_one (ps_ret (pv 3))))),?_⟩
  refine ⟨sz (by decide),fun p hp=>?_⟩
  have s1:Same H (upd H p (.lst [])):=same_upd hp
  have G1:=G.keep s1
  refine ⟨_,rfl,_,_,_,_,rfl,rfl,SqT.of G1.tp,rfl,A',rfl,⟨_,SqL.of G1.hp⟩,for_list (K:=K) (a:=A') (xs:=natV ps) (fun i σ H2=>∃ (bs:List Addr) (v5 v6:Option V),σ=[some (.ref g),some (.ref hd),some (.int e),some (.ref p),some (.int (((ps.take i).sum:Nat):Int)),v5,v6]∧Same H H2∧H2 p=some (.lst (bs.map V.ref))∧bs.length=i∧BegsAt H2 p b a pl e ps bs)
   ⟨[],none,none,rfl,s1,upd_same,rfl,fun i l r _ h=>by simp at h⟩ (fun i σ H2 _ h=>by obtain ⟨_,_,_,_,s2,_⟩:=h;exact SqL.of (s2 _ _ G.hp)) ?_ ?_⟩
  ·rintro i x σ H2 hx ⟨bs,v5,v6,rfl,s2,hp2,hl2,B2⟩
   obtain ⟨l,hl,rfl⟩:=nat_at hx
   have hi4:i<4:=by have:=(List.getElem?_eq_some_iff.mp hl).1;omega
   generalize eo:(ps.take i).sum=o
   have es:(ps.take (i+1)).sum=o+l:=by rw [List.take_add_one,hl,List.sum_append,eo];simp
   have eg:cutV (natV (Ma.dws b a pl pl)) (some ((o:Nat):Int)) (some (((o:Nat):Int)+((l:Nat):Int)))=natV (((Ma.dws b a pl pl).drop o).take l):=by
    rw [cut_mid]
    simp [natV,List.map_take,List.map_drop]
   refine ⟨_,rfl,_,rfl,_,rfl,_,rfl,_,rfl,_,_,rfl,rfl,_,rfl,hd,_,rfl,SqL.of (s2 _ _ hhd),fun q hq=>?_⟩
   have eg':cutV (natV (Ma.dws b a pl pl)) (some ((o:Nat):Int)) (some ((fun i j=>i+j) ((o:Nat):Int) ((l:Nat):Int)))=natV (((Ma.dws b a pl pl).drop o).take l):=eg
   have s3:=same_upd (o:=.lst (natV (((Ma.dws b a pl pl).drop o).take l))) hq
   have u3:(upd H2 q (.lst (natV (((Ma.dws b a pl pl).drop o).take l)))) q=_:=upd_same
   have epq:p≠q:=ne_of_none hp2 hq
   rw [show (upd H2 q (.lst (cutV (natV (Ma.dws b a pl pl)) (some ((o:Nat):Int)) (some (((o:Nat):Int)+((l:Nat):Int))))))=upd H2 q (.lst (natV (((Ma.dws b a pl pl).drop o).take l))) from by rw [eg]]
   generalize upd H2 q (.lst (natV (((Ma.dws b a pl pl).drop o).take l)))=H3 at s3 u3⊢
   have p3:=s3 _ _ hp2
   have close:∀ (r:Addr) (rs:List Addr) (H4:Hp),Same H3 H4→H4 r=some (.lst (rs.map V.ref))→r≠p→rs.length=Mu.pn pl e o l→(∀ x∈rs,x≠p)→RowsD H4 b (Mu.pj pl o l) (Mu.pq b a pl o l) rs→
     Same H (upd H4 p (.lst (bs.map V.ref++[V.ref r])))∧(upd H4 p (.lst (bs.map V.ref++[V.ref r]))) p=some (.lst ((bs++[r]).map V.ref))∧(bs++[r]).length=i+1∧BegsAt (upd H4 p (.lst (bs.map V.ref++[V.ref r]))) p b a pl e ps (bs++[r]):=fun r rs H4 s4 hr4 nr hn hne RD=>by
    refine ⟨same_upd2 ((s2.trans s3).trans s4) hp,by rw [upd_same,List.map_append];rfl,by simp [hl2],fun m l' r' h1 h2=>?_⟩
    have upx:∀ x ob,H4 x=some ob→x≠p→(upd H4 p (.lst (bs.map V.ref++[V.ref r]))) x=some ob:=fun x ob e n=>by rw [upd_ne n];exact e
    by_cases hm:m<bs.length
    ·rw [List.getElem?_append_left hm] at h2
     exact BegsAt.up B2 (fun x ob e n=>upx x ob ((s3.trans s4) _ _ e) n) m l' r' h1 h2
    ·have hm':m=bs.length:=by
      have:=(List.getElem?_eq_some_iff.mp h2).1
      simp at this
      omega
     have hmi:m=i:=by omega
     subst hmi
     rw [List.getElem?_append_right (by omega),hm',Nat.sub_self] at h2
     have er:r=r':=by simpa using h2
     subst er
     rw [hl] at h1
     have el:l=l':=Option.some.inj h1
     subst el
     rw [eo]
     exact ⟨nr,rs,upx _ _ hr4 nr,hn,hne,fun t x e=>⟨upx _ _ (RD t x e).1 (hne x (List.mem_of_getElem? e)),(RD t x e).2⟩⟩
   have one:∀ H4,Same H3 H4→((Ma.dws b a pl pl).drop o).take l=Ma.dws b (Mu.pq b a pl o l) (Mu.pj pl o l) (Mu.pj pl o l)→Mu.pq b a pl o l<b ^ Mu.pj pl o l→RowsD H4 b (Mu.pj pl o l) (Mu.pq b a pl o l) [q]:=fun H4 s4 e1 e2 t x e=>by
    have ht:t=0:=by have:=(List.getElem?_eq_some_iff.mp e).1;simp at this;exact this
    subst ht
    have ex:q=x:=by simpa using e
    subst ex
    rw [Nat.add_zero,← e1]
    exact ⟨s4 _ _ u3,e2⟩
   have el0:(((natV (Ma.dws b a pl pl)).length:Nat):Int)=(pl:Int):=by rw [natV,List.length_map,Ma.dws_len]
   refine ⟨_,rfl,_,rfl,hd,_,rfl,.inl (SqL.of (s3 _ _ (s2 _ _ hhd))),_,_,rfl,rfl,_,rfl,?_⟩
   rw [el0]
   have b0:0<b:=by omega
   have single:∀ (_:((Ma.dws b a pl pl).drop o).take l=Ma.dws b (Mu.pq b a pl o l) (Mu.pj pl o l) (Mu.pj pl o l)) (_:Mu.pq b a pl o l<b ^ Mu.pj pl o l) (_:1=Mu.pn pl e o l) (d:Addr) (hd':H3 d=none),_:=fun e1 e2 e3 d hd'=>close d [q] _ (same_upd (o:=.lst [.ref q]) hd') upd_same (Ne.symm (ne_of_none p3 hd')) e3 (fun x hx=>(show x=q by simpa using hx)▸Ne.symm epq) (one _ (same_upd hd') e1 e2)
   by_cases hA:o+l≤pl
   ·have j1:Mu.pj pl o l=l:=by unfold Mu.pj;rw [if_pos hA]
    have j2:Mu.pq b a pl o l=a / b ^ (pl - o - l) % b ^ l:=by unfold Mu.pq;rw [if_pos hA]
    have j3:Mu.pn pl e o l=1:=by unfold Mu.pn;rw [if_pos hA]
    rw [decide_eq_true (show ((o:Nat):Int)≤(pl:Int) by omega)]
    refine iteT ⟨_,rfl,_,rfl,_,_,rfl,rfl,_,_,rfl,rfl,_,rfl,?_⟩
    rw [decide_eq_false (show ¬ (pl:Int)<(o:Int)+(l:Int) by omega)]
    refine iteF ⟨_,rfl,.inl ⟨rfl,_,SqL.of p3⟩,_,rfl,sz (by simp),fun d hd'=>?_⟩
    obtain ⟨c1,c2,c3,c4⟩:=single (by rw [j1,j2];exact Mu.dws_cut hA) (by rw [j1,j2];exact Nat.mod_lt _ (Nat.pow_pos b0)) j3.symm d hd'
    refine ⟨p,_,_,rfl,rfl,(same_upd hd') _ _ p3,szl (by rw [List.length_map];omega),?_⟩
    refine ⟨_,rfl,_,rfl,_,_,rfl,rfl,bs++[d],some (.int (l:Int)),some (.ref q),?_,c1,c2,c3,c4⟩
    rw [es];push_cast;rfl
   by_cases hC:pl<o
   ·have j1:Mu.pj pl o l=0:=by unfold Mu.pj;rw [if_neg hA,if_neg (by omega)]
    have j2:Mu.pq b a pl o l=0:=by unfold Mu.pq;rw [if_neg hA,if_neg (by omega)]
    have j3:Mu.pn pl e o l=1:=by unfold Mu.pn;rw [if_neg hA,if_neg (by omega)]
    rw [decide_eq_false (show ¬ ((o:Nat):Int)≤(pl:Int) by omega)]
    refine iteF ⟨_,rfl,iteF ⟨_,rfl,.inl ⟨rfl,_,SqL.of p3⟩,_,rfl,sz (by simp),fun d hd'=>?_⟩⟩
    obtain ⟨c1,c2,c3,c4⟩:=single (by rw [j1,j2];exact Mu.dws_cut3 (by omega)) (by rw [j1,j2];exact Nat.pow_pos b0) j3.symm d hd'
    refine ⟨p,_,_,rfl,rfl,(same_upd hd') _ _ p3,szl (by rw [List.length_map];omega),?_⟩
    refine ⟨_,rfl,_,rfl,_,_,rfl,rfl,bs++[d],some (.int (l:Int)),some (.ref q),?_,c1,c2,c3,c4⟩
    rw [es];push_cast;rfl
   ·have j1:Mu.pj pl o l=pl - o+1:=by unfold Mu.pj;rw [if_neg hA,if_pos (by omega)]
    have j2:Mu.pq b a pl o l=a % b ^ (pl - o)*b:=by unfold Mu.pq;rw [if_neg hA,if_pos (by omega)]
    have j3:Mu.pn pl e o l=e:=by unfold Mu.pn;rw [if_neg hA,if_pos (by omega)]
    rw [decide_eq_true (show ((o:Nat):Int)≤(pl:Int) by omega)]
    refine iteT ⟨_,rfl,_,rfl,_,_,rfl,rfl,_,_,rfl,rfl,_,rfl,?_⟩
    rw [decide_eq_true (show (pl:Int)<(o:Int)+(l:Int) by omega)]
    have eg3:=Mu.dws_cut2 (b:=b) (a:=a) (pl:=pl) (o:=o) (l:=l) (by omega) (by omega)
    have b16:=ok.b16
    refine iteT ⟨_,rfl,.inl ⟨rfl,_,SqL.of p3⟩,_,rfl,_,rfl,by omega,by omega,comp_range (lo:=0) (n:=(e:Int).toNat) (fun m ys H4=>∃ rs:List Addr,ys=rs.map V.ref∧rs.length=m∧(∀ x∈rs,x≠p)∧Same H3 H4∧RowsD H4 b (pl - o+1) (a % b ^ (pl - o)*b) rs)
     ⟨[],rfl,rfl,fun x hx=>by simp at hx,Same.refl _,fun t x h=>by simp at h⟩ ?_ ?_⟩
    ·rintro m ys H4 hm ⟨rs,rfl,hrl,hne,s4,RD⟩
     have hme:m<e:=by omega
     refine ⟨szl (by rw [List.length_map];omega),_,rfl,_,rfl,sz (by simp),fun t ht=>?_⟩
     have s45:Same H4 _:=same_upd (o:=.lst [.int (0+(m:Int))]) ht
     have s5:=s4.trans s45
     have u5:(upd H4 t (.lst [.int (0+(m:Int))])) t=_:=upd_same
     generalize upd H4 t (.lst [.int (0+(m:Int))])=H5 at s45 s5 u5⊢
     refine ⟨q,t,_,_,rfl,rfl,s5 _ _ u3,u5,sz (by rw [eg3,natV,List.length_map,Ma.dws_len];simp;omega),fun r hr'=>?_⟩
     have s6:=same_upd (o:=.lst (natV (((Ma.dws b a pl pl).drop o).take l)++[.int (0+(m:Int))])) hr'
     have u6:(upd H5 r (.lst (natV (((Ma.dws b a pl pl).drop o).take l)++[.int (0+(m:Int))]))) r=_:=upd_same
     have s46:Same H4 (upd H5 r (.lst (natV (((Ma.dws b a pl pl).drop o).take l)++[.int (0+(m:Int))]))):=s45.trans s6
     refine ⟨rs++[r],by rw [List.map_append];rfl,by simp [hrl],fun x hx=>?_,s4.trans s46,fun t' x h=>?_⟩
     ·rcases List.mem_append.mp hx with hx | hx
      ·exact hne x hx
      ·have:x=r:=by simpa using hx
       rw [this]
       exact Ne.symm (ne_of_none (s5 _ _ p3) hr')
     ·by_cases ht':t'<rs.length
      ·rw [List.getElem?_append_left ht'] at h
       exact RD.keep s46 t' x h
      ·have e1:t'=m:=by
        have:=(List.getElem?_eq_some_iff.mp h).1
        simp at this
        omega
       subst e1
       rw [List.getElem?_append_right (by omega),hrl,Nat.sub_self] at h
       have e2:r=x:=by simpa using h
       subst e2
       have hmb:t'<b:=by omega
       refine ⟨?_,?_⟩
       ·rw [u6,eg3,Mg.dws_up b _ t' (pl - o) hmb]
        simp [natV]
       ·rw [Nat.pow_succ]
        have h1:a % b ^ (pl - o)<b ^ (pl - o):=Nat.mod_lt _ (Nat.pow_pos b0)
        have h2:(a % b ^ (pl - o)+1)*b≤b ^ (pl - o)*b:=Nat.mul_le_mul_right b h1
        rw [Nat.add_mul] at h2
        omega
    ·rintro ys H4 ⟨rs,rfl,hrl,hne,s4,RD⟩ D hD
     have s5:=s4.trans (same_upd (o:=.lst (rs.map V.ref)) hD)
     obtain ⟨c1,c2,c3,c4⟩:=close D rs _ s5 upd_same (Ne.symm (ne_of_none (s4 _ _ p3) hD)) (by rw [j3,hrl];omega) hne (by rw [j1,j2];exact RD.keep (same_upd hD))
     refine ⟨p,_,_,rfl,rfl,s5 _ _ p3,szl (by rw [List.length_map];omega),?_⟩
     refine ⟨_,rfl,_,rfl,_,_,rfl,rfl,bs++[D],some (.int (l:Int)),some (.ref q),?_,c1,c2,c3,c4⟩
     rw [es];push_cast;rfl
  ·rintro σ H2 ⟨bs,v5,v6,rfl,s2,hp2,hl2,B2⟩
   refine ⟨_,rfl,k p bs H2 hp s2 hp2 (by rw [hl2];simp [natV]) B2⟩
end
end Hv
namespace Mu
open Me Mg
noncomputable abbrev Stre:=Nat×Nat×Nat
noncomputable abbrev sLo(b S:Nat)(x:Stre):Nat:=x.1*b ^ (S - x.2.1)
noncomputable abbrev sN(b S:Nat)(x:Stre):Nat:=x.2.2*b ^ (S - x.2.1 - 1)
noncomputable def strS(b S:Nat)(L:List Stre)(g:Nat→Int):Int:=(L.map fun x=>ns (fun i=>g (sLo b S x+i)) (sN b S x)).sum
structure StrOk(b S:Nat)(x:Stre):Prop where
 pl:x.2.1<S
 e1:1≤x.2.2
 eb:x.2.2≤b
 ha:x.1<b ^ x.2.1
noncomputable def upTo(b S n:Nat):Nat→List Stre
 | 0=>[]
 | i+1=>upTo b S n i++if 0<n / b ^ (S - 1 - i) % b then [(n / b ^ (S - i),i,n / b ^ (S - 1 - i) % b)] else []
theorem upTo_ok{b S n:Nat}(hb:0<b)(hn:n<b ^ S):∀ i,i≤S→∀ x∈upTo b S n i,StrOk b S x
 | 0,_,x,hx=>by simp [upTo] at hx
 | i+1,hi,x,hx=>by
  rw [upTo] at hx
  rcases List.mem_append.mp hx with hx | hx
  ·exact upTo_ok hb hn i (by omega) x hx
  ·split at hx
   ·rename_i h
    have e:x=(n / b ^ (S - i),i,n / b ^ (S - 1 - i) % b):=by simpa using hx
    subst e
    refine ⟨by simp only;omega,h,Nat.le_of_lt (Nat.mod_lt _ hb),?_⟩
    show n / b ^ (S - i)<b ^ i
    rw [Nat.div_lt_iff_lt_mul (Nat.pow_pos hb),← Nat.pow_add]
    have:i+(S - i)=S:=by omega
    rw [this]
    exact hn
   ·simp at hx
theorem upTo_len(b S n:Nat):∀ i,(upTo b S n i).length≤i
 | 0=>by simp [upTo]
 | i+1=>by
  rw [upTo,List.length_append]
  have:=upTo_len b S n i
  split <;> simp <;> omega
theorem strS_app(b S:Nat)(L M:List Stre)(g:Nat→Int):strS b S (L++M) g=strS b S L g+strS b S M g:=by simp [strS]
theorem upTo_sum{b S n:Nat}(hb:0<b)(hn:n<b ^ S)(g:Nat→Int):∀ i,i≤S→strS b S (upTo b S n i) g=ns g (n / b ^ (S - i)*b ^ (S - i))
 | 0,_=>by
  rw [Nat.sub_zero,Nat.div_eq_of_lt hn,Nat.zero_mul]
  rfl
 | i+1,hi=>by
  rw [upTo,strS_app,upTo_sum hb hn g i (by omega)]
  have e1:S - (i+1)=S - 1 - i:=by omega
  have e2:S - i=S - 1 - i+1:=by omega
  rw [e1]
  generalize hk:S - 1 - i=k at *
  have e3:n / b ^ k*b ^ k=n / b ^ (k+1)*b ^ (k+1)+n / b ^ k % b*b ^ k:=by
   have h1:=Nat.div_add_mod (n / b ^ k) b
   rw [Nat.div_div_eq_div_mul,← Nat.pow_succ] at h1
   have h2:n / b ^ (k+1)*b ^ (k+1)=b*(n / b ^ (k+1))*b ^ k:=by
    rw [Nat.pow_succ' (m:=b) (n:=k)]
    rw [Nat.mul_comm b (n / _),Nat.mul_assoc]
   rw [h2,← Nat.add_mul,h1]
  rw [e2,e3,ns_add]
  congr 1
  split
  ·rename_i h
   have e4:S - i - 1=k:=by omega
   simp only [strS,sLo,sN,List.map_cons,List.map_nil,List.sum_cons,List.sum_nil,e2,Int.add_zero]
   have e5:k+1 - 1=k:=by omega
   rw [e5]
  ·rename_i h
   have e6:n / b ^ k % b=0:=by omega
   rw [e6,Nat.zero_mul]
   rfl
theorem upTo_all{b S n:Nat}(hb:0<b)(hn:n<b ^ S)(g:Nat→Int):strS b S (upTo b S n S) g=ns g n:=by
 rw [upTo_sum hb hn g S (Nat.le_refl _),Nat.sub_self,Nat.pow_zero,Nat.div_one,Nat.mul_one]
theorem whole_sum{b S:Nat}(hS:0<S)(g:Nat→Int):strS b S [(0,0,b)] g=ns g (b ^ S):=by
 have e:b*b ^ (S - 1)=b ^ S:=by
  rw [← Nat.pow_succ']
  congr 1
  omega
 simp only [strS,sLo,sN,List.map_cons,List.map_nil,List.sum_cons,List.sum_nil,Nat.sub_zero,Nat.zero_mul,Nat.zero_add,Int.add_zero,e]
theorem dws_take{b n S i:Nat}(hb:0<b)(hn:n<b ^ S)(hi:i≤S):(Ma.dws b n S S).take i=Ma.dws b (n / b ^ (S - i)) i i:=by
 have:=dws_cut (b:=b) (a:=n) (pl:=S) (o:=0) (l:=i) (by omega)
 rw [List.drop_zero,Nat.sub_zero] at this
 rw [this,Nat.mod_eq_of_lt]
 rw [Nat.div_lt_iff_lt_mul (Nat.pow_pos hb),← Nat.pow_add]
 have:i+(S - i)=S:=by omega
 rw [this]
 exact hn
end Mu
namespace Hv
open PySem L2
theorem cut_to{xs:List V}{k:Nat}:cutV xs none (some (k:Int))=xs.take k:=by
 unfold cutV
 rw [HT.sIx_none,HT.sIx_nat]
 rcases Nat.le_total k xs.length with h | h
 ·rw [Nat.min_eq_left h]
  simp
 ·rw [Nat.min_eq_right h,List.take_of_length_le h]
  simp
noncomputable def spNeedBound:Sp:=fun vs H Q _=>∃ f a c b ps ws,∃ n:Nat,vs=[.ref f,.int n]∧FrAt H f a c b ps ws∧n≤b ^ ps.sum∧∀ H',Same H H'→Q .non H'
noncomputable def StrAt(H:Hp)(b:Nat)(t:Addr)(x:Mu.Stre):Prop:=∃ h,H t=some (.tup [.ref h,.int (x.2.2:Int)])∧H h=some (.lst (natV (Ma.dws b x.1 x.2.1 x.2.1)))
theorem StrAt.keep{H H':Hp}{b:Nat}{t:Addr}{x:Mu.Stre}(h:StrAt H b t x)(s:Same H H'):StrAt H' b t x:=let ⟨a,h1,h2⟩:=h;⟨a,s _ _ h1,s _ _ h2⟩
noncomputable def spStretches:Sp:=fun vs H Q _=>∃ f a c b ps ws,∃ n:Nat,vs=[.ref f,.int n]∧FrAt H f a c b ps ws∧n≤b ^ ps.sum∧
 ∀ (p:Addr) (ts:List Addr) (L:List Mu.Stre) (H':Hp),H p=none→Same H H'→H' p=some (.lst (ts.map V.ref))→Paired (StrAt H' b) ts L→L.length≤24→(∀ x∈L,Mu.StrOk b ps.sum x)→(∀ g,Mu.strS b ps.sum L g=Mg.ns g n)→Q (.ref p) H'
section
variable{P:Program}{w:World}{K:PySem.W.Frag}{mg:Str→Option Value}{base:Heap}
theorem scNeedBound:FnScope ["frame","thing"] ["frame","thing"] (defScope sNeedBound):=⟨rfl,rfl,rfl,by decide +kernel,rfl,by decide +kernel,by decide +kernel⟩
theorem ok_needbound{f:Addr}{fd:FuncData}(F:Fun K "need_bound" "need_bound" sNeedBound f fd)(D2:Def P w K mg base 2 "is_between" ["thing","least","greatest"] spBetw)(D6:Def P w K mg base 6 "how_many" ["frame"] spHowMany):FnOk P w K mg base CX0 7 f fd ["frame","thing"] spNeedBound:=by
 refine F.ok scNeedBound (fun vs H Q E h=>?_) (fun cdv A outer s H vs Q E hr h=>?_)
 ·obtain ⟨g,a,c,b,ps,ws,n,rfl,_⟩:=h;rfl
 ·obtain ⟨g,a,c,b,ps,ws,n,rfl,G,hn,k⟩:=h
  refine ⟨_,pss_one (ps_if (pt_not (pt_val (pe_fn D2 (hr.mono (by decide)) (by rfl) (pa_cons (pv 1) (pa_cons pe_int (pa_cons (pe_fn D6 hr (by rfl) (pa_cons (pv 0) pa_nil)) pa_nil)))))) pss_never pss_nil),?_⟩
  refine ⟨_,rfl,_,rfl,g,a,c,b,ps,ws,rfl,G,fun H1 s1=>⟨.int n,0,_,rfl,.int _,_,rfl,?_⟩⟩
  have e:betw (.int (n:Int)) 0 ((b ^ ps.sum:Nat):Int)=true:=by simp only [betw,Bool.and_eq_true,decide_eq_true_eq];omega
  rw [e]
  exact iteF (k H1 s1)
theorem scStretches:FnScope ["frame","n","figures"] ["frame","n"] (defScope sStretches):=⟨rfl,rfl,rfl,by decide +kernel,rfl,by decide +kernel,by decide +kernel⟩
theorem ok_stretches{f:Addr}{fd:FuncData}(F:Fun K "stretches_below" "stretches_below" sStretches f fd)(T:Txt mg)(D6:Def P w K mg base 6 "how_many" ["frame"] spHowMany)(D8:Def P w K mg base 8 "figures_of" ["frame","n"] spFigures):FnOk P w K mg base CX0 9 f fd ["frame","n"] spStretches:=by
 refine F.ok scStretches (fun vs H Q E h=>?_) (fun cdv A outer s H vs Q E hr h=>?_)
 ·obtain ⟨g,a,c,b,ps,ws,n,rfl,_⟩:=h;rfl
 ·obtain ⟨g,a,c,b,ps,ws,n,rfl,G,hn,k⟩:=h
  have nd:=scStretches.nd
  have ok:=G.ok
  have hsum:=ok.sum
  have b2:=ok.b2
  have b0:0<b:=by omega
  refine ⟨_,pss_cons (ps_if (pt_cmpR op_eq (pv 1) (pe_fn D6 (hr.mono (by decide)) (by rfl) (pa_cons (pv 0) pa_nil)) (nomark _)) (pss_one (ps_ret (pe_lst (pa_cons (pe_tup (pa_cons (pe_lst pa_nil) (pa_cons (ixt (pv 0) pe_int) pa_nil))) pa_nil)))) pss_nil)
   (pss_cons (ps_set (i:=2) nd rfl (Or.inr rfl) (pe_fn D8 hr (by rfl) (pa_cons (pv 0) (pa_cons (pv 1) pa_nil))))
   (pss_one (ps_ret (pe_cmp1 (defScope sStretches) ["frame","n","figures"] ["figures"] [2] rfl (pi_range1 (by rfl) T.range (pa_cons (lenS T.len (by rfl) (pv 2)) pa_nil)) (fun cl C s H fp=>pf_one (pt_cmpR op_gt (ixlK K rfl (pv 1) (pv 0)) pe_int (nomark _)))
    (fun cl C s H fp=>pe_tup (pa_cons (pe_slice (sl_listK K rfl) (pv 1) po_none (po_some (pv 0))) (pa_cons (ixlK K rfl (pv 1) (pv 0)) pa_nil))) (by decide +kernel))))),?_⟩
  refine ⟨_,rfl,_,rfl,g,a,c,b,ps,ws,rfl,G,fun H1 s1=>⟨rfl,_,rfl,?_⟩⟩
  have G1:=G.keep s1
  by_cases he:n=b ^ ps.sum
  ·rw [decide_eq_true (by rw [he])]
   refine iteT ⟨sz (by decide),fun p1 hp1=>?_⟩
   have t1:=same_upd (o:=.lst []) hp1
   have G2:=G1.keep t1
   have u1:(upd H1 p1 (.lst [])) p1=_:=upd_same
   generalize upd H1 p1 (.lst [])=H2 at t1 G2 u1⊢
   refine ⟨_,rfl,_,_,_,_,rfl,rfl,SqT.of G2.tp,rfl,sz (by simp),fun p2 hp2=>⟨sz (by simp),fun p3 hp3=>?_⟩⟩
   have t2:=same_upd (o:=.tup [.ref p1,.int (b:Int)]) hp2
   have t3:=same_upd (o:=.lst [.ref p2]) hp3
   refine k p3 [p2] [(0,0,b)] _ (s1.free (t1.free (t2.free hp3))) (((s1.trans t1).trans t2).trans t3) upd_same (.cons ⟨p1,t3 _ _ upd_same,t3 _ _ (t2 _ _ u1)⟩ .nil) (by simp) (fun x hx=>?_) (fun g=>?_)
   ·have:x=(0,0,b):=by simpa using hx
    subst this
    exact ⟨by simp only;omega,by simp only;omega,Nat.le_refl _,by simp⟩
   ·rw [he]
    exact Mu.whole_sum (by omega) g
  ·have hlt:n<b ^ ps.sum:=by omega
   rw [decide_eq_false (by intro z;cases z;exact he rfl)]
   refine iteF ⟨_,rfl,_,rfl,g,a,c,b,ps,ws,n,rfl,G1,hlt,fun r H2 hr1 s2 h2=>?_⟩
   have el:(natV (Ma.dws b n ps.sum ps.sum)).length=ps.sum:=by rw [natV,List.length_map,Ma.dws_len]
   refine ⟨_,rfl,r,_,rfl,.inl (SqL.of h2),_,rfl,by omega,by omega,comp_range (lo:=0) (n:=(((natV (Ma.dws b n ps.sum ps.sum)).length:Nat):Int).toNat) (fun i ys H3=>∃ ts:List Addr,ys=ts.map V.ref∧Same H2 H3∧Paired (StrAt H3 b) ts (Mu.upTo b ps.sum n i)) ⟨[],rfl,Same.refl _,.nil⟩ ?_ ?_⟩
   ·rintro i ys H3 hi ⟨ts,rfl,s3,PR⟩
    have hi':i<ps.sum:=by omega
    have tl:ts.length≤i:=by rw [Paired.length PR];exact Mu.upTo_len b ps.sum n i
    have ez:(0:Int)+(i:Int)=(i:Int):=Int.zero_add _
    have ea:atI (natV (Ma.dws b n ps.sum ps.sum)) (0+(i:Int))=some (.int ((n / b ^ (ps.sum - 1 - i) % b:Nat):Int)):=by
     rw [ez]
     exact atI_nat (by rw [natV,List.getElem?_map,Mu.dws_at hi'];rfl)
    refine ⟨szl (by rw [List.length_map];omega),_,rfl,_,rfl,r_ixl (s3 _ _ h2) ea ⟨_,_,rfl,rfl,_,rfl,?_⟩⟩
    by_cases hd:0<n / b ^ (ps.sum - 1 - i) % b
    ·rw [decide_eq_true (by omega)]
     refine iteT ⟨_,rfl,_,rfl,_,rfl,r,_,rfl,SqL.of (s3 _ _ h2),fun q hq=>?_⟩
     have eg:cutV (natV (Ma.dws b n ps.sum ps.sum)) none (some (0+(i:Int)))=natV (Ma.dws b (n / b ^ (ps.sum - i)) i i):=by
      rw [ez,cut_to,← Mu.dws_take b0 hlt (by omega)]
      simp [natV,List.map_take]
     rw [eg]
     have t4:=same_upd (o:=.lst (natV (Ma.dws b (n / b ^ (ps.sum - i)) i i))) hq
     have u4:(upd H3 q (.lst (natV (Ma.dws b (n / b ^ (ps.sum - i)) i i)))) q=_:=upd_same
     generalize upd H3 q (.lst (natV (Ma.dws b (n / b ^ (ps.sum - i)) i i)))=H4 at t4 u4⊢
     refine ⟨_,rfl,_,rfl,r_ixl (t4 _ _ (s3 _ _ h2)) ea ⟨sz (by simp),fun t ht=>?_⟩⟩
     have t5:=same_upd (o:=.tup [.ref q,.int ((n / b ^ (ps.sum - 1 - i) % b:Nat):Int)]) ht
     refine ⟨ts++[t],by rw [List.map_append];rfl,s3.trans (t4.trans t5),?_⟩
     rw [Mu.upTo,if_pos hd]
     exact Paired.snoc (L2.Paired.mapP PR fun _ _ h=>StrAt.keep h (t4.trans t5)) ⟨q,upd_same,t5 _ _ u4⟩
    ·rw [decide_eq_false (by omega)]
     refine iteF ⟨ts,rfl,s3,?_⟩
     rw [Mu.upTo,if_neg hd,List.append_nil]
     exact PR
   ·rintro ys H3 ⟨ts,rfl,s3,PR⟩ D hD
    have en:(((natV (Ma.dws b n ps.sum ps.sum)).length:Nat):Int).toNat=ps.sum:=by omega
    rw [en] at PR
    exact k D ts _ _ (s1.free (s2.free (s3.free hD))) ((s1.trans s2).trans (s3.trans (same_upd hD))) upd_same (L2.Paired.mapP PR fun _ _ h=>StrAt.keep h (same_upd hD)) (Nat.le_trans (Mu.upTo_len _ _ _ _) (by omega)) (Mu.upTo_ok b0 hlt _ (Nat.le_refl _)) (Mu.upTo_all b0 hlt)
end
end Hv
namespace Mu
open Me Mg
noncomputable def lo(b a pl o:Nat):Nat:=if o≤pl then a / b ^ (pl - o) else a*b ^ (o - pl)
noncomputable def cn(b pl e o:Nat):Nat:=if o≤pl then 1 else e*b ^ (o - pl - 1)
noncomputable def plo(b a pl o l:Nat):Nat:=pq b a pl o l*b ^ (l - pj pl o l)
noncomputable def pcn(b pl e o l:Nat):Nat:=pn pl e o l*b ^ (l - pj pl o l)
theorem part_step{b a pl e o l:Nat}(hb:0<b)(he:e≤b) :
  lo b a pl (o+l)=lo b a pl o*b ^ l+plo b a pl o l∧cn b pl e (o+l)=cn b pl e o*pcn b pl e o l∧(cn b pl e o=1∨(plo b a pl o l=0∧pcn b pl e o l=b ^ l))∧plo b a pl o l+pcn b pl e o l≤b ^ l:=by
 unfold lo cn plo pcn pj pq pn
 by_cases hA:o+l≤pl
 ·have h1:o≤pl:=by omega
  simp only [if_pos hA,if_pos h1,Nat.sub_self,Nat.pow_zero,Nat.mul_one]
  have e1:pl - (o+l)=pl - o - l:=by omega
  have e2:a / b ^ (pl - o)=a / b ^ (pl - o - l) / b ^ l:=by
   rw [Nat.div_div_eq_div_mul,← Nat.pow_add]
   congr 2
   omega
  have h2:a / b ^ (pl - o - l) % b ^ l<b ^ l:=Nat.mod_lt _ (Nat.pow_pos hb)
  refine ⟨?_,trivial,.inl trivial,h2⟩
  rw [e1,e2,Nat.mul_comm]
  exact (Nat.div_add_mod _ _).symm
 ·by_cases hC:o≤pl
  ·simp only [if_neg hA,if_pos hC]
   obtain ⟨m,hm⟩:∃ m,m=pl - o:=⟨_,rfl⟩
   obtain ⟨r,hr⟩:∃ r,r=l - m - 1:=⟨_,rfl⟩
   have e1:l - (pl - o+1)=r:=by omega
   have e2:o+l - pl=r+1:=by omega
   have e3:l=m+1+r:=by omega
   rw [e1,e2,← hm]
   have hbl:b ^ l=b ^ m*b*b ^ r:=by rw [e3,Nat.pow_add,Nat.pow_succ]
   have h2:a % b ^ m<b ^ m:=Nat.mod_lt _ (Nat.pow_pos hb)
   have h3:a % b ^ m*b+e≤b ^ m*b:=by
    have:(a % b ^ m+1)*b≤b ^ m*b:=Nat.mul_le_mul_right b h2
    rw [Nat.add_mul] at this
    omega
   refine ⟨?_,?_,.inl trivial,?_⟩
   ·have h4:=Nat.div_add_mod a (b ^ m)
    have h5:a*b ^ (r+1)=(b ^ m*(a / b ^ m)+a % b ^ m)*b ^ (r+1):=by rw [h4]
    rw [h5,hbl,Nat.add_mul,Nat.pow_succ']
    congr 1
    ·rw [Nat.mul_comm (b ^ m),Nat.mul_assoc,Nat.mul_assoc]
    ·rw [Nat.mul_assoc]
   ·have e4:r+1 - 1=r:=by omega
    rw [e4,Nat.one_mul]
   ·rw [← Nat.add_mul,hbl]
    exact Nat.mul_le_mul_right _ h3
  ·have h1:¬ o+l≤pl:=hA
   simp only [if_neg hA,if_neg hC,Nat.zero_mul,Nat.sub_zero,Nat.one_mul,Nat.add_zero,Nat.zero_add,Nat.le_refl,and_true,or_true]
   have e1:o+l - pl=(o - pl)+l:=by omega
   have e2:o+l - pl - 1=(o - pl - 1)+l:=by omega
   rw [e2,e1,Nat.pow_add,Nat.pow_add]
   exact ⟨(Nat.mul_assoc _ _ _).symm,(Nat.mul_assoc _ _ _).symm⟩
theorem lo_zero{b a pl:Nat}(ha:a<b ^ pl):lo b a pl 0=0:=by
 unfold lo
 rw [if_pos (Nat.zero_le _),Nat.sub_zero]
 exact Nat.div_eq_of_lt ha
theorem cn_zero(b pl e:Nat):cn b pl e 0=1:=by unfold cn;rw [if_pos (Nat.zero_le _)]
theorem lo_end{b S:Nat}{x:Stre}(h:x.2.1<S):lo b x.1 x.2.1 S=sLo b S x∧cn b x.2.1 x.2.2 S=sN b S x:=by
 unfold lo cn
 rw [if_neg (by omega),if_neg (by omega)]
 exact ⟨rfl,rfl⟩
noncomputable def stepC(b:Nat)(sc:(Nat→Int)×(Nat→Int))(row:List Int):(Nat→Int)×(Nat→Int) :=
 (fun x=>sc.1 (x / b ^ row.length),fun x=>sc.2 (x / b ^ row.length)*if ws1 b (x % b ^ row.length) row=sc.1 (x / b ^ row.length) then 1 else 0)
noncomputable def chainC(b:Nat)(row:List Int)(rows:List (List Int)):(Nat→Int)×(Nat→Int):=rows.foldl (stepC b) (fun n=>ws1 b n row,fun _=>1)
theorem chain_take{b i:Nat}{row r:List Int}{rows:List (List Int)}(h:rows[i]?=some r):chainC b row (rows.take (i+1))=stepC b (chainC b row (rows.take i)) r:=by
 unfold chainC
 rw [List.take_add_one,h,List.foldl_append]
 rfl
end Mu
namespace Hv
open PySem L2
noncomputable def PartsR(H:Hp)(b:Nat)(ps:List Nat)(ws:List Int)(x:Mu.Stre)(ds:List Addr):Prop:=∀ (i l:Nat) (row:List Int) (d:Addr),ps[i]?=some l→(Ma.cuts ps ws)[i]?=some row→ds[i]?=some d→
 ∃ kvs h,H d=some (.dK kvs)∧PT H kvs h∧Mu.Rep h 810 (Mu.plo b x.1 x.2.1 (ps.take i).sum l) (Mu.pcn b x.2.1 x.2.2 (ps.take i).sum l) (fun n=>Mg.ws1 b n row) fun _=>1
theorem PartsR.keep{H H':Hp}{b:Nat}{ps:List Nat}{ws:List Int}{x:Mu.Stre}{ds:List Addr}(h:PartsR H b ps ws x ds)(s:Same H H'):PartsR H' b ps ws x ds:=fun i l row d a1 a2 a3=>let ⟨kvs,h,b1,b2,b3⟩:=h i l row d a1 a2 a3;⟨kvs,h,s _ _ b1,b2.keep s,b3⟩
noncomputable def strV(b:Nat)(ps:List Nat)(row:List Int)(rows:List (List Int))(x:Mu.Stre):Int:=Mg.ns (fun i=>(Mu.chainC b row rows).2 (Mu.sLo b ps.sum x+i)*((Mu.sLo b ps.sum x+i:Nat):Int)) (Mu.sN b ps.sum x)
noncomputable def spJoined:Sp:=fun vs H Q _=>∃ f A c b ps ws,∃ (sl:Addr) (ds:List Addr) (x:Mu.Stre),vs=[.ref f,.ref sl]∧FrAt H f A c b ps ws∧H sl=some (.lst (ds.map V.ref))∧ds.length=ps.length∧Mu.StrOk b ps.sum x∧PartsR H b ps ws x ds∧
 ∀ (row:List Int) (H':Hp),Same H H'→(Ma.cuts ps ws)[0]?=some row→Q (.int (strV b ps row ((Ma.cuts ps ws).drop 1) x)) H'
noncomputable def TailsAll(H:Hp)(b:Nat)(ps:List Nat)(ws:List Int)(tds:List Addr):Prop:=∀ (i:Nat) (row:List Int) (d:Addr),(Ma.cuts ps ws)[i]?=some row→tds[i]?=some d→∃ ts:List Addr,H d=some (.lst (ts.map V.ref))∧ts.length=row.length+1∧TailsT H b ts row
theorem TailsAll.keep{H H':Hp}{b:Nat}{ps:List Nat}{ws:List Int}{tds:List Addr}(h:TailsAll H b ps ws tds)(s:Same H H'):TailsAll H' b ps ws tds:=fun i row d a1 a2=>let ⟨ts,b1,b2,b3⟩:=h i row d a1 a2;⟨ts,s _ _ b1,b2,b3.keep s⟩
noncomputable def spWorthBegun:Sp:=fun vs H Q _=>∃ f A c b ps ws,∃ (tl hd:Addr) (tds:List Addr) (x:Mu.Stre),vs=[.ref f,.ref tl,.ref hd,.int (x.2.2:Int)]∧FrAt H f A c b ps ws∧H tl=some (.lst (tds.map V.ref))∧tds.length=ps.length∧TailsAll H b ps ws tds∧H hd=some (.lst (natV (Ma.dws b x.1 x.2.1 x.2.1)))∧Mu.StrOk b ps.sum x∧
 ∀ (row:List Int) (H':Hp),Same H H'→(Ma.cuts ps ws)[0]?=some row→Q (.int (strV b ps row ((Ma.cuts ps ws).drop 1) x)) H'
theorem paired_at{α β:Type}{R:α→β→Prop}:∀ {as:List α} {bs:List β},Paired R as bs→∀ {i:Nat} {a:α},as[i]?=some a→∃ b,bs[i]?=some b∧R a b
 | _,_,.cons h t,0,a,e=>by cases e;exact ⟨_,rfl,h⟩
 | _,_,.cons h t,i+1,a,e=>by
  rw [List.getElem?_cons_succ] at e
  obtain ⟨b,h1,h2⟩:=paired_at t e
  exact ⟨b,by rw [List.getElem?_cons_succ];exact h1,h2⟩
theorem ref_at{qs:List Addr}{i:Nat}{x:V}(h:(qs.map V.ref)[i]?=some x):∃ q,qs[i]?=some q∧x=.ref q:=by
 rw [List.getElem?_map] at h
 cases e:qs[i]? with
 | none=>rw [e] at h;cases h
 | some d=>rw [e] at h;exact ⟨d,rfl,(Option.some.inj h).symm⟩
section
variable{P:Program}{w:World}{K:PySem.W.Frag}{mg:Str→Option Value}{base:Heap}
theorem scWorthBegun:FnScope ["frame","tails_by_part","head","end","beginnings","weights_by_part","sums_by_part","rows","weights","tails"] ["frame","tails_by_part","head","end"] (defScope sWorthBegun):=⟨rfl,rfl,rfl,by decide +kernel,rfl,by decide +kernel,by decide +kernel⟩
theorem ok_worthbegun{f:Addr}{fd:FuncData}(F:Fun K "worth_begun" "worth_begun" sWorthBegun f fd)(T:Txt mg)(DP:Def P w K mg base 1 "part_beginnings" ["frame","head","end"] spPartBegin)(DC:Def P w K mg base 1 "cut_by_parts" ["frame","row"] spCut)
  (DW:Def P w K mg base 2 "worth_from_beginnings" ["base","rows","weights","tails"] spWorthFrom) (DJ:Def P w K mg base 2 "joined_worth" ["frame","sums_by_part"] spJoined):FnOk P w K mg base CX0 3 f fd ["frame","tails_by_part","head","end"] spWorthBegun:=by
 refine F.ok scWorthBegun (fun vs H Q E h=>?_) (fun cdv A outer s H vs Q E hr h=>?_)
 ·obtain ⟨g,A,c,b,ps,ws,tl,hd,tds,x,rfl,_⟩:=h;rfl
 ·obtain ⟨g,A',c,b,ps,ws,tl,hd,tds,x,rfl,G,htl,htd,TA,hhd,SO,k⟩:=h
  have nd:=scWorthBegun.nd
  have ok:=G.ok
  have l4:=ok.l4
  have hsum:=ok.sum
  have hpl:=SO.pl
  refine ⟨_,pss_cons (ps_set (i:=4) nd rfl (Or.inl rfl) (pe_fn DP (hr.mono (by decide)) (by rfl) (pa_cons (pv 0) (pa_cons (pv 2) (pa_cons (pv 3) pa_nil)))))
   (pss_cons (ps_set (i:=5) nd rfl (Or.inl rfl) (pe_fn DC (hr.mono (by decide)) (by rfl) (pa_cons (pv 0) (pa_cons (ixt (pv 0) pe_int) pa_nil))))
   (pss_cons (ps_set (i:=6) nd rfl (Or.inl rfl) (pe_lst pa_nil))
   (pss_cons (ps_for PassesOwn.never rfl (pi_zip3 (by rfl) T.zip (pv 4) (pv 5) (pv 1)) (pg_tup rfl (pgs_cons (pg_name (i:=7) nd rfl (Or.inl rfl)) (pgs_cons (pg_name (i:=8) nd rfl (Or.inl rfl)) (pgs_cons (pg_name (i:=9) nd rfl (Or.inl rfl)) pgs_nil))))
    (pss_one (ps_expr (pe_bm PySem.F.plainAttrs_list PySem.F.slot_list_append PySem.F.type_list_append mt_append (pv 6) (pa_cons (pe_fn DW hr (by rfl) (pa_cons (ixt (pv 0) pe_int) (pa_cons (pv 7) (pa_cons (pv 8) (pa_cons (pv 9) pa_nil))))) pa_nil)))))
   (pss_one (ps_ret (pe_fn DJ hr (by rfl) (pa_cons (pv 0) (pa_cons (pv 6) pa_nil)))))))),?_⟩
  refine ⟨_,rfl,_,rfl,_,rfl,g,A',c,b,ps,ws,hd,x.1,x.2.1,x.2.2,rfl,G,hhd,SO.eb,by omega,fun bp bs H1 hbp s1 hb1 hbl BA=>?_⟩
  have G1:=G.keep s1
  refine ⟨_,rfl,_,rfl,_,_,_,_,rfl,rfl,SqT.of G1.tp,rfl,g,A',c,b,ps,ws,c,ws,rfl,G1,G1.hw,fun wp qs H2 s2 hw2 rows=>?_⟩
  have G2:=G1.keep s2
  have qlen:qs.length=ps.length:=by rw [Paired.length rows,Ma.cuts_len]
  refine ⟨sz (by decide),fun sl hsl=>?_⟩
  have s3:=same_upd (o:=.lst []) hsl
  have hslH:H sl=none:=s1.free (s2.free hsl)
  have u3:(upd H2 sl (.lst [])) sl=_:=upd_same
  have S3:Same H (upd H2 sl (.lst [])):=(s1.trans s2).trans s3
  have S13:Same H1 (upd H2 sl (.lst [])):=s2.trans s3
  generalize upd H2 sl (.lst [])=H3 at s3 u3 S3 S13⊢
  refine ⟨_,rfl,_,rfl,_,rfl,bp,wp,tl,rfl,rfl,rfl,⟨_,SqL.of (S13 _ _ hb1)⟩,⟨_,SqL.of (s3 _ _ hw2)⟩,⟨_,SqL.of (S3 _ _ htl)⟩,for_zip3 (K:=K) (a:=bp) (b:=wp) (c:=tl) (xs:=bs.map V.ref) (ys:=qs.map V.ref) (zs:=tds.map V.ref)
   (fun i σ H4=>∃ (ds:List Addr) (v7 v8 v9:Option V),σ=[some (.ref g),some (.ref tl),some (.ref hd),some (.int (x.2.2:Int)),some (.ref bp),some (.ref wp),some (.ref sl),v7,v8,v9]∧(∀ y ob,H3 y=some ob→y≠sl→H4 y=some ob)∧H4 sl=some (.lst (ds.map V.ref))∧ds.length=i∧PartsR H4 b ps ws x ds) (by simp [hbl,qlen]) (by simp [hbl,htd])
   ⟨[],none,none,none,rfl,fun y ob e _=>e,u3,rfl,fun i l row d _ _ h=>by simp at h⟩ ?_ ?_ ?_⟩
  ·rintro i σ H4 _ ⟨ds,v7,v8,v9,rfl,kp,_⟩
   exact ⟨SqL.of (kp _ _ (S13 _ _ hb1) (ne_of_none hb1 (s2.free hsl))),SqL.of (kp _ _ (s3 _ _ hw2) (ne_of_none hw2 hsl)),SqL.of (kp _ _ (S3 _ _ htl) (ne_of_none htl hslH))⟩
  ·rintro i xb xw xt σ H4 t hb hw ht ⟨ds,v7,v8,v9,rfl,kp,hsl4,hdl,PR⟩ htn
   obtain ⟨br,hbr,rfl⟩:=ref_at hb
   obtain ⟨wq,hwq,rfl⟩:=ref_at hw
   obtain ⟨td,htd',rfl⟩:=ref_at ht
   have hi:i<ps.length:=by have:=(List.getElem?_eq_some_iff.mp hbr).1;omega
   obtain ⟨l,hl⟩:∃ l,ps[i]?=some l:=⟨_,List.getElem?_eq_getElem hi⟩
   have hrow:=Ma.cuts_get ps ws i l hl
   generalize er:(ws.drop (ps.take i).sum).take l=row at hrow
   have hrl:row.length=l:=by
    have h1:=Me.cuts_lens ps ws ok.wl
    have h2:((Ma.cuts ps ws).map List.length)[i]?=some row.length:=by rw [List.getElem?_map,hrow];rfl
    rw [h1,hl] at h2
    exact (Option.some.inj h2).symm
   have hrm:row∈Ma.cuts ps ws:=List.mem_of_getElem? hrow
   have u5:(upd H4 t (.tup [.ref br,.ref wq,.ref td])) t=_:=upd_same
   have t5:=same_upd (o:=.tup [.ref br,.ref wq,.ref td]) htn
   refine ⟨t,_,rfl,SqT.of upd_same,rfl,_,_,rfl,_,_,rfl,_,_,rfl,rfl,?_⟩
   have kp5:∀ y ob,H3 y=some ob→y≠sl→(upd H4 t (.tup [.ref br,.ref wq,.ref td])) y=some ob:=fun y ob e n=>t5 _ _ (kp y ob e n)
   have sl5:=t5 _ _ hsl4
   have PR5:=PR.keep t5
   generalize upd H4 t (.tup [.ref br,.ref wq,.ref td])=H5 at u5 t5 kp5 sl5 PR5⊢
   have U2:Same H2 H5:=fun y ob e=>kp5 _ _ (s3 _ _ e) (ne_of_none e hsl)
   have U1:Same H1 H5:=fun y ob e=>kp5 _ _ (S13 _ _ e) (ne_of_none e (s2.free hsl))
   have U0:Same H H5:=fun y ob e=>kp5 _ _ (S3 _ _ e) (ne_of_none e hslH)
   have G5:=G.keep U0
   obtain ⟨_,rs,hrs,hrsl,_,RD⟩:=BA i l br hl hbr
   have hwq2:H2 wq=some (.lst (row.map V.int)):=by
    obtain ⟨row',hr',e'⟩:=paired_at rows hwq
    rw [hrow] at hr'
    cases hr'
    exact e'
   obtain ⟨ts,ht1,ht2,ht3⟩:=TA i row td hrow htd'
   refine ⟨_,rfl,.inl ⟨rfl,_,SqL.of sl5⟩,_,rfl,_,_,_,_,rfl,rfl,SqT.of G5.tp,rfl,_,rfl,_,rfl,_,rfl,b,br,wq,td,rs,ts,row,Mu.pq b x.1 x.2.1 (ps.take i).sum l,Mu.pj x.2.1 (ps.take i).sum l,rfl,U1 _ _ hrs,U2 _ _ hwq2,U0 _ _ ht1,ht2,ht3.keep U0,ok.b2,ok.b16,fun y hy=>ok.wr y (Ma.cuts_mem hrm y hy),Ma.cuts_short (fun p hp=>(ok.pr p hp).2) hrm,by rw [hrl];exact Mu.pj_le,RD.keep U1,fun dp kvs h H6 hdp s6 h6 pt6 R6=>?_⟩
   rw [hrl,hrsl] at R6
   have ndp:dp≠sl:=fun z=>by rw [z,sl5] at hdp;cases hdp
   refine ⟨sl,_,_,rfl,rfl,s6 _ _ sl5,szl (by rw [List.length_map];omega),ds++[dp],some (.ref br),some (.ref wq),some (.ref td),rfl,fun y ob e n=>?_,by rw [upd_same,List.map_append];rfl,by simp [hdl],fun m l' row' d' a1 a2 a3=>?_⟩
   ·rw [upd_ne n]
    exact s6 _ _ (kp5 y ob e n)
   ·have kpT:∀ y ob,H6 y=some ob→(∀ xs,ob≠.lst xs)→(upd H6 sl (.lst (ds.map V.ref++[V.ref dp]))) y=some ob:=fun y ob e n=>by
     rw [upd_ne]
     ·exact e
     ·intro z
      rw [z,s6 _ _ sl5] at e
      exact n _ (Option.some.inj e).symm
    by_cases hm:m<ds.length
    ·rw [List.getElem?_append_left hm] at a3
     obtain ⟨kv',h',b1,b2,b3⟩:=PR5 m l' row' d' a1 a2 a3
     exact ⟨kv',h',kpT _ _ (s6 _ _ b1) (fun xs z=>nomatch z),PT.tups (b2.keep s6) (fun tt xs e=>kpT _ _ e fun xs z=>nomatch z),b3⟩
    ·have hm':m=i:=by
      have:=(List.getElem?_eq_some_iff.mp a3).1
      simp at this
      omega
     subst hm'
     rw [List.getElem?_append_right (by omega),hdl,Nat.sub_self] at a3
     have e1:dp=d':=by simpa using a3
     subst e1
     rw [hl] at a1
     cases a1
     rw [hrow] at a2
     cases a2
     exact ⟨kvs,h,by rw [upd_ne ndp];exact h6,PT.tups pt6 (fun tt xs e=>kpT _ _ e fun xs z=>nomatch z),R6⟩
  ·rintro σ H4 ⟨ds,v7,v8,v9,rfl,kp,hsl4,hdl,PR⟩
   have U0:Same H H4:=fun y ob e=>kp _ _ (S3 _ _ e) (ne_of_none e hslH)
   exact ⟨_,rfl,_,rfl,g,A',c,b,ps,ws,sl,ds,x,rfl,G.keep U0,hsl4,by rw [hdl,List.length_map,hbl],SO,PR,fun row H' s' hrow=>k row H' (U0.trans s') hrow⟩
end
end Hv
namespace Hv
open PySem L2
noncomputable def evS(b:Nat)(row:List Int)(rows:List (List Int))(n:Nat):Int:=Mg.ns (fun m=>(Mu.chainC b row rows).2 m*(m:Int)) n
noncomputable def spSumBelow:Sp:=fun vs H Q _=>∃ f A c b ps ws,∃ n:Nat,vs=[.ref f,.int n]∧FrAt H f A c b ps ws∧n≤b ^ ps.sum∧∀ (row:List Int) (H':Hp),Same H H'→(Ma.cuts ps ws)[0]?=some row→Q (.int (evS b row ((Ma.cuts ps ws).drop 1) n)) H'
noncomputable def spSumEven:Sp:=fun vs H Q _=>∃ f A c b ps ws,vs=[.ref f]∧FrAt H f A c b ps ws∧∀ (row:List Int) (H':Hp),Same H H'→(Ma.cuts ps ws)[0]?=some row→Q (.int (evS b row ((Ma.cuts ps ws).drop 1) (b ^ ps.sum))) H'
theorem strV_sum{b:Nat}{ps:List Nat}{row:List Int}{rows:List (List Int)}{L:List Mu.Stre}{n:Nat}(h:∀ g,Mu.strS b ps.sum L g=Mg.ns g n):(L.map (strV b ps row rows)).sum=evS b row rows n:=by
 unfold evS
 rw [← h]
 rfl
section
variable{P:Program}{w:World}{K:PySem.W.Frag}{mg:Str→Option Value}{base:Heap}
theorem scSumBelow:FnScope ["frame","n","tails_by_part"] ["frame","n"] (defScope sSumBelow):=⟨rfl,rfl,rfl,by decide +kernel,rfl,by decide +kernel,by decide +kernel⟩
theorem ok_sumbelow{f:Addr}{fd:FuncData}(F:Fun K "sum_even_below" "sum_even_below" sSumBelow f fd)(T:Txt mg)(D5:Def P w K mg base 5 "need_frame" ["thing"] spNeedFrame)(D7:Def P w K mg base 7 "need_bound" ["frame","thing"] spNeedBound)(DC:Def P w K mg base 1 "cut_by_parts" ["frame","row"] spCut)
  (DT:Def P w K mg base 3 "worth_tails" ["base","weights"] spTailsT) (DS:Def P w K mg base 9 "stretches_below" ["frame","n"] spStretches) (DW:Def P w K mg base 3 "worth_begun" ["frame","tails_by_part","head","end"] spWorthBegun):FnOk P w K mg base CX0 10 f fd ["frame","n"] spSumBelow:=by
 refine F.ok scSumBelow (fun vs H Q E h=>?_) (fun cdv A outer s H vs Q E hr h=>?_)
 ·obtain ⟨g,A,c,b,ps,ws,n,rfl,_⟩:=h;rfl
 ·obtain ⟨g,A',c,b,ps,ws,n,rfl,G,hn,k⟩:=h
  have nd:=scSumBelow.nd
  have ok:=G.ok
  have l4:=ok.l4
  have l2:=ok.l2
  have nd2:List.Nodup (["head","end","frame","tails_by_part"]:List Str):=by decide +kernel
  refine ⟨_,pss_cons (ps_expr (pe_fn D5 (hr.mono (by decide)) (by rfl) (pa_cons (pv 0) pa_nil)))
   (pss_cons (ps_expr (pe_fn D7 (hr.mono (by decide)) (by rfl) (pa_cons (pv 0) (pa_cons (pv 1) pa_nil))))
   (pss_cons (ps_set (i:=2) nd rfl (Or.inr rfl) (pe_cmp1 (defScope sSumBelow) ["frame","n","tails_by_part"] ["frame"] [0] rfl (pi_list (pe_fn DC (hr.mono (by decide)) (by rfl) (pa_cons (pv 0) (pa_cons (ixt (pv 0) pe_int) pa_nil)))) (fun cl C s H fp=>pf_nil)
    (fun cl C s H fp=>pe_fn DT (hr.mono (by decide)) (by rfl) (pa_cons (ixtK K rfl (pv 1) pe_int) (pa_cons (pv 0) pa_nil))) (by decide +kernel)))
   (pss_one (ps_ret (pe_callB (call_sumA rfl) (by rfl) T.sum boot_sum (pa_cons (pe_comp (N:=["head","end","frame","tails_by_part"]) (k:=2) (fr:=[0,2]) (cmpS (sc:=defScope sSumBelow) (NX:=["frame","n","tails_by_part"]) (k:=2) (fr:=[0,2]) rfl rfl (by decide +kernel))
    (cmpF (sc:=defScope sSumBelow) (NX:=["frame","n","tails_by_part"]) rfl (by decide +kernel)) rfl (pi_list (pe_fn DS hr (by rfl) (pa_cons (pv 0) (pa_cons (pv 1) pa_nil))))
    (fun cl C s H fp=>pg_tupK K rfl rfl (pgs_cons (pg_name (i:=0) nd2 rfl (Or.inl rfl)) (pgs_cons (pg_name (i:=1) nd2 rfl (Or.inl rfl)) pgs_nil))) gk_two (fun cl C s H fp=>pf_nil)
    (fun cl C s H fp=>pe_fn DW (hr.mono (by decide)) (by rfl) (pa_cons (pv 2) (pa_cons (pv 3) (pa_cons (pv 0) (pa_cons (pv 1) pa_nil)))))) pa_nil)))))),?_⟩
  obtain ⟨row0,hrow0⟩:∃ row0,(Ma.cuts ps ws)[0]?=some row0:=⟨_,List.getElem?_eq_getElem (by rw [Ma.cuts_len];omega)⟩
  refine ⟨_,rfl,g,A',c,b,ps,ws,rfl,G,fun H1 s1=>?_⟩
  refine ⟨_,rfl,_,rfl,g,A',c,b,ps,ws,n,rfl,G.keep s1,hn,fun H2 s2=>?_⟩
  have S2:=s1.trans s2
  have G2:=G.keep S2
  refine ⟨_,rfl,_,rfl,_,_,_,_,rfl,rfl,SqT.of G2.tp,rfl,g,A',c,b,ps,ws,c,ws,rfl,G2,G2.hw,fun wp qs H3 s3 hw3 rows=>⟨wp,rfl,⟨_,SqL.of hw3⟩,comp_list (K:=K) (a:=wp) (xs:=qs.map V.ref) (fun i ys H4=>∃ tds:List Addr,ys=tds.map V.ref∧tds.length=i∧Same H3 H4∧TailsAll H4 b ps ws tds)
   ⟨[],rfl,rfl,Same.refl _,fun i row d _ h=>by simp at h⟩ (fun i ys H4 _ p=>by obtain ⟨_,_,_,z,_⟩:=p;exact SqL.of (z _ _ hw3)) ?_ ?_⟩⟩
  ·rintro i x ys H4 hx ⟨tds,rfl,htl,s4,TA⟩
   obtain ⟨wq,hwq,rfl⟩:=ref_at hx
   obtain ⟨row,hrow,hwr⟩:=paired_at rows hwq
   have hrm:row∈Ma.cuts ps ws:=List.mem_of_getElem? hrow
   have G4:=(G2.keep s3).keep s4
   have hi:i<4:=by
    have h1:=(List.getElem?_eq_some_iff.mp hrow).1
    rw [Ma.cuts_len] at h1
    omega
   refine ⟨szl (by rw [List.length_map];omega),_,rfl,_,_,_,_,rfl,rfl,SqT.of G4.tp,rfl,_,rfl,b,wq,row,rfl,s4 _ _ hwr,ok.b16,fun y hy=>ok.wr y (Ma.cuts_mem hrm y hy),Ma.cuts_short (fun p hp=>(ok.pr p hp).2) hrm,fun p ts H5 hp s5 hp5 hts5 TT=>?_⟩
   refine ⟨tds++[p],by rw [List.map_append];rfl,by simp [htl],s4.trans s5,fun m row' d' a1 a2=>?_⟩
   by_cases hm:m<tds.length
   ·rw [List.getElem?_append_left hm] at a2
    exact TA.keep s5 m row' d' a1 a2
   ·have hm':m=i:=by
     have:=(List.getElem?_eq_some_iff.mp a2).1
     simp at this
     omega
    subst hm'
    rw [List.getElem?_append_right (by omega),htl,Nat.sub_self] at a2
    have e1:p=d':=by simpa using a2
    subst e1
    rw [hrow] at a1
    cases a1
    exact ⟨ts,hp5,hts5,TT⟩
  ·rintro ys H4 ⟨tds,rfl,htl,s4,TA⟩ D hD
   have tdl:tds.length=ps.length:=by rw [htl,List.length_map,Paired.length rows,Ma.cuts_len]
   have s5:=same_upd (o:=.lst (tds.map V.ref)) hD
   have u5:(upd H4 D (.lst (tds.map V.ref))) D=_:=upd_same
   have S5:=S2.trans (s3.trans (s4.trans s5))
   have TA5:=TA.keep s5
   generalize upd H4 D (.lst (tds.map V.ref))=H5 at s5 u5 S5 TA5⊢
   refine ⟨_,rfl,_,rfl,g,A',c,b,ps,ws,n,rfl,G.keep S5,hn,fun p ts L H6 hp s6 hp6 PR hL SO hg=>⟨p,rfl,⟨_,SqL.of hp6⟩,comp_list (K:=K) (a:=p) (xs:=ts.map V.ref) (fun i ys H7=>ys=((L.take i).map (strV b ps row0 ((Ma.cuts ps ws).drop 1))).map V.int∧Same H6 H7)
    ⟨by simp,Same.refl _⟩ (fun i ys H7 _ q=>SqL.of (q.2 _ _ hp6)) ?_ ?_⟩⟩
   ·rintro i x ys H7 hx ⟨rfl,s7⟩
    obtain ⟨t,ht,rfl⟩:=ref_at hx
    obtain ⟨x',hx',hh,h1,h2⟩:=paired_at PR ht
    have S7:=s6.trans s7
    refine ⟨szl (by rw [List.length_map,List.length_map,List.length_take];omega),t,_,rfl,SqT.of (s7 _ _ h1),rfl,_,_,rfl,_,_,rfl,rfl,_,rfl,_,rfl,_,rfl,_,rfl,g,A',c,b,ps,ws,D,hh,tds,x',rfl,G.keep (S5.trans S7),S7 _ _ u5,tdl,TA5.keep S7,s7 _ _ h2,SO x' (List.mem_of_getElem? hx'),fun row H8 s8 hrow=>?_⟩
    rw [hrow0] at hrow
    cases hrow
    refine ⟨?_,s7.trans s8⟩
    rw [List.take_add_one,hx']
    simp
   ·rintro ys H7 ⟨rfl,s7⟩ wl hwl
    have el:(ts.map V.ref).length=L.length:=by rw [List.length_map,Paired.length PR]
    rw [el,List.take_length]
    refine ⟨wl,_,rfl,SqL.of upd_same,?_⟩
    rw [strV_sum hg]
    exact k row0 _ (S5.trans (s6.trans (s7.trans (same_upd hwl)))) hrow0
theorem scSumEven:FnScope ["frame"] ["frame"] (defScope sSumEven):=⟨rfl,rfl,rfl,by decide +kernel,rfl,by decide +kernel,by decide +kernel⟩
theorem ok_sumeven{f:Addr}{fd:FuncData}(F:Fun K "sum_even" "sum_even" sSumEven f fd)(D6:Def P w K mg base 6 "how_many" ["frame"] spHowMany)(DB:Def P w K mg base 10 "sum_even_below" ["frame","n"] spSumBelow):FnOk P w K mg base CX0 11 f fd ["frame"] spSumEven:=by
 refine F.ok scSumEven (fun vs H Q E h=>?_) (fun cdv A outer s H vs Q E hr h=>?_)
 ·obtain ⟨g,A,c,b,ps,ws,rfl,_⟩:=h;rfl
 ·obtain ⟨g,A',c,b,ps,ws,rfl,G,k⟩:=h
  refine ⟨_,pss_one (ps_ret (pe_fn DB hr (by rfl) (pa_cons (pv 0) (pa_cons (pe_fn D6 (hr.mono (by decide)) (by rfl) (pa_cons (pv 0) pa_nil)) pa_nil)))),?_⟩
  exact ⟨_,rfl,_,rfl,g,A',c,b,ps,ws,rfl,G,fun H1 s1=>⟨g,A',c,b,ps,ws,b ^ ps.sum,rfl,G.keep s1,Nat.le_refl _,fun row H' s' hrow=>k row H' (s1.trans s') hrow⟩⟩
end
end Hv
namespace L2
open PySem PySem.Spec PyProof.Rows
noncomputable def Itw(a:Addr)(o:Obj)(kvs:List (Key×V)):It :=
 ⟨fun i H=>H a=some (.frz o (.dK kvs))∧i<kvs.length,fun i H x H'=>H'=H∧∃ k,kvs[i]?=some (k,x),fun i H=>H a=some (.frz o (.dK kvs))∧kvs.length≤i⟩
theorem turn_vals{P:Program}{w:World}{K:PySem.W.Frag}{tg:Expr}{a it:Addr}{o:Obj}{kvs:List (Key×V)}{vs:List (Key×Value)}{ep:Nat}(rel:KV kvs vs)
  (da:∀ h:Heap,h.get? a=some o→h.DictAt (mixKind P w) a vs ep):Turn P w K tg (Itw a o kvs) [it] it (fun i h=>h.IsValIter it a i vs.length ep) where
 mem:=by simp
 obj:=fun i h st b hb=>by
  have e:b=it:=by simpa using hb
  subst e
  obtain ⟨o,e,c,d⟩:=st
  exact ⟨o,e,fun v z=>by rw [d] at z;cases z⟩
 keep:=fun i h h' st k=>st.at fun o e=>k it (by simp) o e
 item:=by
  intro X hP hw hK hc i pins s σ H E I hf st hg
  subst hP hw hK
  obtain ⟨hq,hi⟩:=hg
  obtain ⟨f0,f1,f2,f3,f4,f5⟩:=hf it (by simp)
  have hx:kvs[i]?=some kvs[i]:=by simp [hi]
  obtain ⟨u,hu,ru⟩:=rel.at hx
  refine wpAny_pyNext_values_item st (da _ (I.hok a _ hq).1) hu fun h' st' sb=>?_
  have I1:Inv X pins σ H {s with heap:=h'}:=I.turned (t':=s.toks) (fun b o hb e=>(sb.2 b hb).trans e) f0 f1 f3 f4 f5
  obtain ⟨oi,e,c,d⟩:=id st'
  exact ⟨u,rfl,go_of (s:={s with heap:=h'}) e c d (by decide) ⟨(kvs[i]).2,H,I1,ru,⟨rfl,(kvs[i]).1,hx⟩,st',fun b hb=>(hf b hb).1⟩⟩
 done:=by
  intro X hP hw hK hc i pins s σ H E I hf st hg
  subst hP hw hK
  obtain ⟨hq,hi⟩:=hg
  obtain ⟨f0,f1,f2,f3,f4,f5⟩:=hf it (by simp)
  have hl:=rel.length
  exact wpAny_pyNext_values_end (I.ok.hd hc) st (da _ (I.hok a _ hq).1) (by simp;omega) fun h' eb=>⟨rfl,I.turned (t':=s.toks) (fun b o hb e=>eb b o hb e) f0 f1 f3 f4 f5⟩
 self:=fun _ _ _ _ _ st h=>wpAny_pyIter_valiter st h
noncomputable def iVals(tl:TE):TI:=fun σ H R=>tl σ H fun x H1=>∃ a kvs,x=.ref a∧H1 a=some (.dK kvs)∧∀ o,R (Itw a o kvs) (upd H1 a (.frz o (.dK kvs)))
theorem pi_vals{X:Cx}{tg o:Expr}{td:TE}{apos cpos:Pos}(ho:PE X o td)(hbase:attributeBase o "values" X.env (eval o X.env)=eval o X.env:=by rfl)(hline:(apos.endLine==cpos.line)=true:=by rfl) :
  PI X tg (.Call (.Attribute o "values" apos) [] [] cpos) (iVals td):=by
 intro pins s σ H R I h
 refine wpAny_Call_method0_late hbase hline (thn (ho pins s σ H _ I h) fun v s1 ⟨x,H1,I1,r1,a,kvs,ex,he,q⟩=>?_)
 subst ex
 obtain rfl:v=Value.ref a:=r1
 obtain ⟨t1,t2,_⟩:=isD_at I1 (.inl ⟨kvs,.inl he⟩)
 obtain ⟨z,hd,vs,rel,dd⟩:=dk_of I1.hok he
 refine ⟨"dict","dict.values",PySem.F.plainAttrs_dict,PySem.F.slot_dict_values,PySem.F.type_dict_values,t1,t2,Calls.callWith_builtin rfl (PySem.evalArgs_none ?_)⟩
 refine call_meetsIn PySem.F.slot_dict_values dd.typeIs PySem.F.entry_dict_values (PySem.F.args_dict_values_1 _) (meets_dict_values (mixKind X.prog X.w) a hd) ⟨⟨_,dd⟩,?_⟩
 have I2:=I1.kept (t':=s1.toks) (h':=s1.heap.push {cls:=.type "dict_values",data:=.fields #[.ref a]}) fun b o e=>Heap.get?_push_of_some _ e
 obtain ⟨ob,es,ep,hob,rest⟩:=dd
 have hob2:=Heap.get?_push_of_some {cls:=.type "dict_values",data:=.fields #[.ref a]} hob
 have I3:=I2.freeze he hob2
 show wpAny _ _ (pyIter (.ref s1.heap.objs.size)) _ _ _
 refine wpAny_pyIter_values (d:=a) (kvs:=vs) (ep:=ep) ⟨_,Heap.get?_push_size _ rfl,rfl,rfl⟩ ⟨ob,es,hob2,rest⟩ ?_
 refine ⟨_,[_],_,_,_,rfl,I3.kept (t':=s1.toks) fun b o e=>Heap.get?_push_of_some _ e,turn_vals (ep:=ep) rel fun h e=>⟨ob,es,e,rest⟩,⟨_,Heap.get?_push_size _ rfl,rfl,rfl⟩,fun b hb=>?_,q ob⟩
 have e:=List.mem_singleton.mp hb
 subst e
 exact I3.fpOk (Nat.le_refl _) (I3.hok.fresh (Nat.le_refl _))
theorem comp_vals{a:Addr}{o:Obj}{kvs:List (Key×V)}{G:V→Hp→(List V→Hp→Prop)→List V→Prop}{Fin:List V→Hp→Prop}{H:Hp}(Pv:Nat→List V→Hp→Prop)(h0:Pv 0 [] H)(hl:∀ i ys H,i≤kvs.length→Pv i ys H→H a=some (.frz o (.dK kvs)))
  (hs:∀ i k v ys H,kvs[i]?=some (k,v)→Pv i ys H→ys.length<sizeLine∧G v H (Pv (i+1)) ys) (hd:∀ ys H,Pv kvs.length ys H→Fin ys H) :
  ∃ W:Nat→Nat→List V→Hp→Prop,(∃ m,W 0 m [] H)∧∀ i m ys H,W i m ys H→
   ((Itw a o kvs).stop i H∧Fin ys H)∨((Itw a o kvs).go i H∧ys.length<sizeLine∧∃ Nx:List V→Hp→Prop,(∀ ys' H',Nx ys' H'→∃ m',m'<m∧W (i+1) m' ys' H')∧∀ x H',(Itw a o kvs).yld i H x H'→G x H' Nx ys):=by
 refine ⟨fun i m ys H=>m=kvs.length - i∧i≤kvs.length∧Pv i ys H,⟨kvs.length,by simp,Nat.zero_le _,h0⟩,?_⟩
 rintro i m ys H ⟨rfl,hi,p⟩
 have q:=hl i ys H hi p
 by_cases hlt:i<kvs.length
 ·have a1:=hs i kvs[i].1 kvs[i].2 ys H (by simp [hlt]) p
  refine .inr ⟨⟨q,hlt⟩,a1.1,Pv (i+1),fun ys' H' p'=>⟨kvs.length - (i+1),by omega,rfl,hlt,p'⟩,fun x H' y=>?_⟩
  obtain ⟨e,k,hk⟩:=y
  subst e
  exact (hs i k x ys _ hk p).2
 ·have e:i=kvs.length:=by omega
  subst e
  exact .inl ⟨⟨q,Nat.le_refl _⟩,hd ys H p⟩
end L2
namespace L2
open PySem PySem.Spec PyProof.Rows
noncomputable abbrev IsZipF(h:Heap)(z TI TO:Addr)(f0:Value)(f1:Bool):Prop :=
 h.get? z=some {cls:=.type "zip",dict:=none,data:=.fields #[f0,.bool f1,.bool false,.ref TI,.ref TO],slots:=#[]}
section
variable{prog:Program}{w:World}{A:Around}{E:Value→Shared→Prop}{s:Shared}
theorem wpAny_alive{a:Addr}{Q:Option Obj→Shared→Prop}(h:Q (s.heap.get? a) s):wpAny (model prog w) A (loadIfAlive a) Q E s:=fun Γ p _=>by
 unfold loadIfAlive
 simp only [Sem.wp]
 exact h
theorem next2_taken{z TI TO i1 i2 l1 l2 T:Addr}{f1:Bool}{oT:Obj}{k1 k2:Nat}{xs ys:Array Value}{x y:Value}{Q:Value→Shared→Prop}(D:ZipApart z TI TO i1 i2 l1 l2)
  (hz:IsZipF s.heap z TI TO (rawInt (T:Nat)) f1) (hT:s.heap.get? T=some oT) (hTI:IsPair s.heap TI (.ref i1) (.ref i2))
  (h1:s.heap.IsListIter i1 l1 k1) (h2:s.heap.IsListIter i2 l2 k2) (hl1:s.heap.IsList l1 xs) (hl2:s.heap.IsList l2 ys) (hx:xs[k1]?=some x) (hy:ys[k2]?=some y)
  (hQ:∀ h',IsZipF h' z TI TO (rawInt (T:Nat)) true→h'.IsListIter i1 l1 (k1+1)→h'.IsListIter i2 l2 (k2+1)→IsPair h' s.heap.objs.size x y→h'.objs.size=s.heap.objs.size+1→
   (∀ c o,c≠z→c≠i1→c≠i2→s.heap.get? c=some o→h'.get? c=some o)→Q (.ref s.heap.objs.size) {s with heap:=h'}) :
  wpAny (model prog w) A (Builtin.«zip.__next__» ⟨[.ref z],[]⟩) (fun fin s'=>∃ v,fin=.done (.ret v)∧Q v s') E s:=by
 show wpAny _ _ (field (.ref z) 2>>=_) _ _ _
 refine wpAny_bind (wpAny_field hz rfl (x:=.bool false) rfl ?_)
 show wpAny _ _ (field (.ref z) 3>>=_) _ _ _
 refine wpAny_bind (wpAny_field hz rfl (x:=.ref TI) rfl ?_)
 refine wpAny_bind (wpAny_seqItems hTI rfl ?_)
 show wpAny _ _ (Builtin.SmallTypes.ownedTupleIsFree (.ref z)>>=_) _ _ _
 have free:∀ (Q:Bool→Shared→Prop),(∀ h',IsZipF h' z TI TO (rawInt (T:Nat)) true→Heap.SameBut z s.heap h'→Q false {s with heap:=h'})→wpAny (model prog w) A (Builtin.SmallTypes.ownedTupleIsFree (.ref z)) Q E s:=fun Q hq=>by
  unfold Builtin.SmallTypes.ownedTupleIsFree
  refine wpAny_bind (wpAny_field hz rfl (x:=rawInt (T:Nat)) rfl ?_)
  show wpAny _ _ (loadIfAlive ((T:Nat):Int).toNat>>=_) _ _ _
  refine wpAny_bind (wpAny_alive ?_)
  have e:((T:Nat):Int).toNat=T:=Int.toNat_natCast T
  rw [e,hT]
  simp only [Option.isNone_some,Bool.false_eq_true,if_false]
  refine wpAny_bind (wpAny_field hz rfl (x:=.bool f1) rfl ?_)
  cases f1 with
  | true =>
   rw [if_neg (by decide)]
   exact wpAny_pure (hq s.heap hz ⟨rfl,fun _ _=>rfl⟩)
  | false =>
   rw [if_pos (by decide)]
   exact wpAny_bind (wpAny_setField_rec hz (by simp) fun h' hz' hs'=>wpAny_pure (hq h' hz' hs'))
 refine wpAny_bind (free _ fun H1 hz1 s1=>?_)
 simp only [Bool.false_eq_true,if_false]
 refine wpAny_bind ?_
 rw [← Array.forIn_toList]
 simp only [List.forIn_cons,List.forIn_nil]
 refine wpAny_bind (wpAny_bind (wpAny_holding ?_))
 show wpAny _ _ (Builtin.SmallTypes.nextOf (.ref i1)>>=_) _ _ _
 refine wpAny_bind (wpAny_nextOf_list_item (h1.extBut s1.extBut D.i1z) (hl1.extBut s1.extBut D.l1z) hx fun H2 q2 s2=>wpAny_pure ?_)
 refine wpAny_pure ?_
 refine wpAny_bind (wpAny_bind (wpAny_holding ?_))
 show wpAny _ _ (Builtin.SmallTypes.nextOf (.ref i2)>>=_) _ _ _
 refine wpAny_bind (wpAny_nextOf_list_item ((h2.extBut s1.extBut D.i2z).extBut s2.extBut D.i12.symm) ((hl2.extBut s1.extBut D.l2z).extBut s2.extBut D.l2i1) hy fun H3 q3 s3=>wpAny_pure ?_)
 refine wpAny_pure (wpAny_pure ?_)
 refine wpAny_bind (wpAny_newTuple (hsz:=by show 2≤sizeLine;decide) ?_)
 refine wpAny_pure ⟨_,rfl,?_⟩
 have hsz:H3.objs.size=s.heap.objs.size:=by rw [s3.1,s2.1,s1.1]
 have hz3:IsZipF H3 z TI TO (rawInt (T:Nat)) true:=s3.extBut _ _ D.i2z.symm (s2.extBut _ _ D.i1z.symm hz1)
 have r1:H3.IsListIter i1 l1 (k1+1):=q2.extBut s3.extBut D.i12
 have up:∀ c o,H3.get? c=some o→(H3.push {cls:=.type "tuple",data:=.seq #[x,y]}).get? c=some o:=fun c o e=>Heap.get?_push_of_some _ e
 have fin:=hQ (H3.push {cls:=.type "tuple",data:=.seq #[x,y]}) (up _ _ hz3) (r1.at fun o e=>up _ o e) (q3.at fun o e=>up _ o e) (by rw [← hsz];exact Heap.get?_push_size _ rfl) (by rw [Heap.size_push,hsz])
  fun c o c1 c2 c3 e=>up _ _ (s3.extBut _ _ c3 (s2.extBut _ _ c2 (s1.extBut _ _ c1 e)))
 show Q (.ref H3.objs.size) _
 rw [hsz]
 exact fin
end
end L2
namespace L2
open PySem PySem.Spec PyProof.Rows
section
variable{prog:Program}{w:World}{A:Around}{E:Value→Shared→Prop}{s:Shared}
theorem taken_free{z TI TO T:Addr}{f1:Bool}{oT:Obj}(hz:IsZipF s.heap z TI TO (rawInt (T:Nat)) f1)(hT:s.heap.get? T=some oT){Q:Bool→Shared→Prop}
  (hq:∀ h',IsZipF h' z TI TO (rawInt (T:Nat)) true→Heap.SameBut z s.heap h'→Q false {s with heap:=h'}):wpAny (model prog w) A (Builtin.SmallTypes.ownedTupleIsFree (.ref z)) Q E s:=by
 unfold Builtin.SmallTypes.ownedTupleIsFree
 refine wpAny_bind (wpAny_field hz rfl (x:=rawInt (T:Nat)) rfl ?_)
 show wpAny _ _ (loadIfAlive ((T:Nat):Int).toNat>>=_) _ _ _
 refine wpAny_bind (wpAny_alive ?_)
 have e:((T:Nat):Int).toNat=T:=Int.toNat_natCast T
 rw [e,hT]
 simp only [Option.isNone_some,Bool.false_eq_true,if_false]
 refine wpAny_bind (wpAny_field hz rfl (x:=.bool f1) rfl ?_)
 cases f1 with
 | true =>
  rw [if_neg (by decide)]
  exact wpAny_pure (hq s.heap hz ⟨rfl,fun _ _=>rfl⟩)
 | false =>
  rw [if_pos (by decide)]
  exact wpAny_bind (wpAny_setField_rec hz (by simp) fun h' hz' hs'=>wpAny_pure (hq h' hz' hs'))
theorem next2_takenEnd{z TI TO i1 i2 l1 l2 T:Addr}{f1:Bool}{oT:Obj}{k1:Nat}{xs:Array Value}{Q:Fin→Shared→Prop}(hh:A.handled=none)(D:ZipApart z TI TO i1 i2 l1 l2)
  (hz:IsZipF s.heap z TI TO (rawInt (T:Nat)) f1) (hT:s.heap.get? T=some oT) (hTI:IsPair s.heap TI (.ref i1) (.ref i2))
  (h1:s.heap.IsListIter i1 l1 k1) (hl1:s.heap.IsList l1 xs) (hx:xs[k1]?=none)
  (hE:∀ h' e,(∀ c o,c≠z→c≠i1→s.heap.get? c=some o→h'.get? c=some o)→(∃ o,h'.get? e=some o∧o.cls=.type "StopIteration")→E (.ref e) {s with heap:=h'}) :
  wpAny (model prog w) A (Builtin.«zip.__next__» ⟨[.ref z],[]⟩) Q E s:=by
 show wpAny _ _ (field (.ref z) 2>>=_) _ _ _
 refine wpAny_bind (wpAny_field hz rfl (x:=.bool false) rfl ?_)
 show wpAny _ _ (field (.ref z) 3>>=_) _ _ _
 refine wpAny_bind (wpAny_field hz rfl (x:=.ref TI) rfl ?_)
 refine wpAny_bind (wpAny_seqItems hTI rfl ?_)
 show wpAny _ _ (Builtin.SmallTypes.ownedTupleIsFree (.ref z)>>=_) _ _ _
 refine wpAny_bind (taken_free hz hT fun H1 hz1 s1=>?_)
 simp only [Bool.false_eq_true,if_false]
 refine wpAny_bind ?_
 rw [← Array.forIn_toList]
 simp only [List.forIn_cons,List.forIn_nil]
 refine wpAny_bind (wpAny_bind (wpAny_holding ?_))
 show wpAny _ _ (Builtin.SmallTypes.nextOf (.ref i1)>>=_) _ _ _
 refine wpAny_bind (wpAny_nextOf_list_end hh (h1.extBut s1.extBut D.i1z) (hl1.extBut s1.extBut D.l1z) hx fun H2 e s2 he=>?_)
 exact hE H2 e (fun c o c1 c2 x=>s2 _ _ c2 (s1.extBut _ _ c1 x)) he
theorem pyNext2_taken{z TI TO i1 i2 l1 l2 T:Addr}{f1:Bool}{oT:Obj}{k1 k2:Nat}{xs ys:Array Value}{x y:Value}{Q:Option Value→Shared→Prop}(D:ZipApart z TI TO i1 i2 l1 l2)
  (hz:IsZipF s.heap z TI TO (rawInt (T:Nat)) f1) (hT:s.heap.get? T=some oT) (hTI:IsPair s.heap TI (.ref i1) (.ref i2))
  (h1:s.heap.IsListIter i1 l1 k1) (h2:s.heap.IsListIter i2 l2 k2) (hl1:s.heap.IsList l1 xs) (hl2:s.heap.IsList l2 ys) (hx:xs[k1]?=some x) (hy:ys[k2]?=some y)
  (hQ:∀ h',IsZipF h' z TI TO (rawInt (T:Nat)) true→h'.IsListIter i1 l1 (k1+1)→h'.IsListIter i2 l2 (k2+1)→IsPair h' s.heap.objs.size x y→h'.objs.size=s.heap.objs.size+1→
   (∀ c o,c≠z→c≠i1→c≠i2→s.heap.get? c=some o→h'.get? c=some o)→Q (some (.ref s.heap.objs.size)) {s with heap:=h'}) :
  wpAny (model prog w) A (pyNext (.ref z)) Q E s:=by
 have hTy:s.TypeIs (.ref z) "zip":=⟨_,hz,rfl⟩
 unfold pyNext
 exact wpAny_bind (wpAny_attempt (wpAny_callSpecial?_slot (name:=Str.ofString "__next__") hTy F.slot_zip_next
  (wpAny_call_entry F.slot_zip_next hTy F.entry_zip_next
   (next2_taken D hz hT hTI h1 h2 hl1 hl2 hx hy fun h' a1 a2 a3 a4 a5 a6=>wpAny_pure (hQ h' a1 a2 a3 a4 a5 a6)) (F.args_zip_next_1 _))))
theorem pyNext2_takenEnd{z TI TO i1 i2 l1 l2 T:Addr}{f1:Bool}{oT:Obj}{k1:Nat}{xs:Array Value}{Q:Option Value→Shared→Prop}(hh:A.handled=none)(D:ZipApart z TI TO i1 i2 l1 l2)
  (hz:IsZipF s.heap z TI TO (rawInt (T:Nat)) f1) (hT:s.heap.get? T=some oT) (hTI:IsPair s.heap TI (.ref i1) (.ref i2))
  (h1:s.heap.IsListIter i1 l1 k1) (hl1:s.heap.IsList l1 xs) (hx:xs[k1]?=none)
  (hQ:∀ h',(∀ c o,c≠z→c≠i1→s.heap.get? c=some o→h'.get? c=some o)→Q none {s with heap:=h'}):wpAny (model prog w) A (pyNext (.ref z)) Q E s:=by
 have hTy:s.TypeIs (.ref z) "zip":=⟨_,hz,rfl⟩
 unfold pyNext
 refine wpAny_bind (wpAny_attempt (wpAny_callSpecial?_slot (name:=Str.ofString "__next__") hTy F.slot_zip_next
  (wpAny_call_entry F.slot_zip_next hTy F.entry_zip_next (next2_takenEnd hh D hz hT hTI h1 hl1 hx fun h' e hk he=>?_) (F.args_zip_next_1 _))))
 obtain ⟨o,ho,hc⟩:=he
 refine wpAny_bind (wpAny_isInstance (T:="StopIteration") (b:=true) ⟨o,ho,hc⟩ isSubtype_stop ?_)
 exact wpAny_pure (hQ _ hk)
end
end L2
namespace L2
open PySem PySem.Spec PyProof.Rows
structure Zs(h:Heap)(z TI TO i1 i2 a b:Addr)(i:Nat):Prop where
 ti:IsPair h TI (.ref i1) (.ref i2)
 to:∃ u v,IsPair h TO u v
 j1:h.IsListIter i1 a i
 j2:h.IsListIter i2 b i
 zz:IsZip h z TI TO .none∨∃ (T:Nat) (f1:Bool) (oT:Obj),IsZipF h z TI TO (rawInt (T:Nat)) f1∧h.get? T=some oT∧oT.cls=.type "tuple"
theorem Zs.keep{h h':Heap}{z TI TO i1 i2 a b:Addr}{i:Nat}{S:Addr}(st:Zs h z TI TO i1 i2 a b i)(k:∀ c o,c≠S→h.get? c=some o→h'.get? c=some o)(hS:S∉[z,TI,TO,i1,i2]){its:Array Value}{n:Nat}(eS:h.get? S=some {cls:=.type "list",data:=.seq its n}):Zs h' z TI TO i1 i2 a b i:=by
 have hS':∀ c∈[z,TI,TO,i1,i2],c≠S:=fun c hc e=>hS (e▸hc)
 refine ⟨k _ _ (hS' TI (by simp)) st.ti,let ⟨u,v,e⟩:=st.to;⟨u,v,k _ _ (hS' TO (by simp)) e⟩,st.j1.at fun o e=>k _ _ (hS' i1 (by simp)) e,st.j2.at fun o e=>k _ _ (hS' i2 (by simp)) e,?_⟩
 rcases st.zz with e | ⟨T,f1,oT,e1,e2,e3⟩
 ·exact .inl (k _ _ (hS' z (by simp)) e)
 ·refine .inr ⟨T,f1,oT,k _ _ (hS' z (by simp)) e1,k _ _ (fun q=>?_) e2,e3⟩
  rw [q,eS] at e2
  cases e2
  simp at e3
section
variable{prog:Program}{w:World}{A:Around}{E:Value→Shared→Prop}{s:Shared}
theorem Zs.item{z TI TO i1 i2 l1 l2:Addr}{i:Nat}{xs ys:Array Value}{x y:Value}{Q:Option Value→Shared→Prop}(D:ZipApart z TI TO i1 i2 l1 l2)(st:Zs s.heap z TI TO i1 i2 l1 l2 i)
  (hl1:s.heap.IsList l1 xs) (hl2:s.heap.IsList l2 ys) (hx:xs[i]?=some x) (hy:ys[i]?=some y)
  (hQ:∀ h',Zs h' z TI TO i1 i2 l1 l2 (i+1)→IsPair h' s.heap.objs.size x y→(∀ c o,c∉[z,TI,TO,i1,i2]→s.heap.get? c=some o→h'.get? c=some o)→Q (some (.ref s.heap.objs.size)) {s with heap:=h'}) :
  wpAny (model prog w) A (pyNext (.ref z)) Q E s:=by
 obtain ⟨u,v,hto⟩:=st.to
 rcases st.zz with e | ⟨T,f1,oT,e1,e2,e3⟩
 ·refine wpAny_pyNext_zip_item D e st.ti hto st.j1 st.j2 hl1 hl2 hx hy fun h' g1 g2 g3 g4 g5 g6 g7=>hQ h' ⟨g7 _ _ D.TIz D.TITO D.TIi1 D.TIi2 st.ti,⟨_,_,g2⟩,g3,g4,.inr ⟨_,false,_,g1,g5,rfl⟩⟩ g5 fun c o hc e=>?_
  simp only [List.mem_cons,List.not_mem_nil,or_false,not_or] at hc
  exact g7 c o hc.1 hc.2.2.1 hc.2.2.2.1 hc.2.2.2.2 e
 ·have t1:(T:Addr)≠z:=fun q=>by rw [q,e1] at e2;cases e2;simp at e3
  have t2:(T:Addr)≠i1:=fun q=>by
   obtain ⟨o,q1,q2,_⟩:=st.j1
   rw [q,q1] at e2;cases e2;rw [q2] at e3;simp at e3
  have t3:(T:Addr)≠i2:=fun q=>by
   obtain ⟨o,q1,q2,_⟩:=st.j2
   rw [q,q1] at e2;cases e2;rw [q2] at e3;simp at e3
  refine pyNext2_taken D e1 e2 st.ti st.j1 st.j2 hl1 hl2 hx hy fun h' g1 g3 g4 g5 g6 g7=>hQ h' ⟨g7 _ _ D.TIz D.TIi1 D.TIi2 st.ti,⟨_,_,g7 _ _ D.TOz D.TOi1 D.TOi2 hto⟩,g3,g4,.inr ⟨T,true,oT,g1,g7 _ _ t1 t2 t3 e2,e3⟩⟩ g5 fun c o hc e=>?_
  simp only [List.mem_cons,List.not_mem_nil,or_false,not_or] at hc
  exact g7 c o hc.1 hc.2.2.2.1 hc.2.2.2.2 e
theorem Zs.done{z TI TO i1 i2 l1 l2:Addr}{i:Nat}{xs ys:Array Value}{Q:Option Value→Shared→Prop}(hh:A.handled=none)(D:ZipApart z TI TO i1 i2 l1 l2)(st:Zs s.heap z TI TO i1 i2 l1 l2 i)
  (hl1:s.heap.IsList l1 xs) (hl2:s.heap.IsList l2 ys) (hx:xs[i]?=none)
  (hQ:∀ h',(∀ c o,c∉[z,TI,TO,i1,i2]→s.heap.get? c=some o→h'.get? c=some o)→Q none {s with heap:=h'}) :
  wpAny (model prog w) A (pyNext (.ref z)) Q E s:=by
 obtain ⟨u,v,hto⟩:=st.to
 rcases st.zz with e | ⟨T,f1,oT,e1,e2,e3⟩
 ·refine wpAny_pyNext_zip_end hh D e st.ti hto st.j1 st.j2 hl1 hl2 (.inl hx) fun h' g7=>hQ h' fun c o hc e=>?_
  simp only [List.mem_cons,List.not_mem_nil,or_false,not_or] at hc
  exact g7 c o hc.1 hc.2.2.1 hc.2.2.2.1 hc.2.2.2.2 e
 ·refine pyNext2_takenEnd hh D e1 e2 st.ti st.j1 hl1 hx fun h' g7=>hQ h' fun c o hc e=>?_
  simp only [List.mem_cons,List.not_mem_nil,or_false,not_or] at hc
  exact g7 c o hc.1 hc.2.2.2.1 e
end
end L2
namespace L2
open PySem PySem.Spec PyProof.Rows
noncomputable def TupsAt(H:Hp)(ts:List Addr)(xs ys:List V):Prop:=∀ (j:Nat) (t:Addr),ts[j]?=some t→∃ x y,xs[j]?=some x∧ys[j]?=some y∧H t=some (.tup [x,y])
theorem zl_loop{X:Cx}{pins:List (Addr×Obj)}{σ:St}{A:Around}{R:Result→Shared→Prop}{z TI TO i1 i2 a b S:Addr}{xs ys:List V}{res:Value}(hh:A.handled=none)(D:ZipApart z TI TO i1 i2 a b)(hlen:xs.length=ys.length)(hsz:xs.length≤sizeLine)(hSf:S∉[z,TI,TO,i1,i2])(haS:a≠S)(hbS:b≠S) :
  ∀ (k i:Nat) (s:Shared) (H:Hp) (ts:List Addr),xs.length - i=k→i≤xs.length→Inv X pins σ H s→Zs s.heap z TI TO i1 i2 a b i→(∀ c∈[z,TI,TO,i1,i2],FpOk X pins H c)→H a=some (.lst xs)→H b=some (.lst ys)→H S=some (.lst (ts.map V.ref))→ts.length=i→TupsAt H ts xs ys→
   (∀ s' H' ts',Inv X pins σ H' s'→(∀ c o,H c=some o→c≠S→H' c=some o)→H' S=some (.lst (ts'.map V.ref))→ts'.length=xs.length→TupsAt H' ts' xs ys→R (.ok (.ret res)) s')→
   codeAny (model X.prog X.w) A (.builtin "list.extend.loop" ⟨[.ref S,.ref z,res],[]⟩) R s:=by
 intro k
 induction k with
 | zero =>
  intro i s H ts hk hi I st hf ha hb hS hts TA hR
  have hin:i=xs.length:=by omega
  obtain ⟨z1,its,n1,r1,l1,e1⟩:=I.lstM ha
  obtain ⟨z2,jts,n2,r2,l2,e2⟩:=I.lstM hb
  refine codeAny_builtin F.entry_extend_loop ?_
  rw [Around.under_plainId F.plain_extend_loop _]
  show wpAny _ A.in1 (pyNext (.ref z)>>=_) _ _ s
  refine wpAny_bind (Zs.done hh D st ⟨_,e1,rfl,_,rfl⟩ ⟨_,e2,rfl,_,rfl⟩ (by simp;omega) fun h' kk=>?_)
  exact wpAny_pure (hR _ H ts (I.turnedL (t':=s.toks) kk hf) (fun _ _ e _=>e) hS (by rw [hts,hin]) TA)
 | succ k ih =>
  intro i s H ts hk hi I st hf ha hb hS hts TA hR
  have hlt:i<xs.length:=by omega
  obtain ⟨z1,its,n1,r1,l1,e1⟩:=I.lstM ha
  obtain ⟨z2,jts,n2,r2,l2,e2⟩:=I.lstM hb
  have hx:xs[i]?=some xs[i]:=List.getElem?_eq_getElem hlt
  have hy:ys[i]?=some (ys[i]'(by omega)):=List.getElem?_eq_getElem (by omega)
  obtain ⟨u,hu,ru⟩:=r1.get hx
  obtain ⟨v,hv,rv⟩:=r2.get hy
  refine codeAny_builtin F.entry_extend_loop ?_
  rw [Around.under_plainId F.plain_extend_loop _]
  show wpAny _ A.in1 (pyNext (.ref z)>>=_) _ _ s
  refine wpAny_bind (Zs.item D st ⟨_,e1,rfl,_,rfl⟩ ⟨_,e2,rfl,_,rfl⟩ (x:=u) (y:=v) (by simpa using hu) (by simpa using hv) fun h' st' tT kk=>?_)
  have hn:H s.heap.objs.size=none:=I.hok.fresh (Nat.le_refl _)
  have I1:=I.turnedNew (t':=s.toks) (T:=s.heap.objs.size) (o:=.tup [xs[i],ys[i]'(by omega)]) kk hf (Nat.le_refl _) ⟨by show 2≤sizeLine;decide,[u,v],.cons ru (.cons rv .nil),⟨_,tT,rfl,_,rfl⟩⟩
  have nST:S≠s.heap.objs.size:=ne_of_none hS hn
  have hS1:(upd H s.heap.objs.size (.tup [xs[i],ys[i]'(by omega)])) S=some (.lst (ts.map V.ref)):=by rw [upd_ne nST];exact hS
  obtain ⟨z3,kts,n3,r3,l3,e3⟩:=I1.lstM hS1
  have hkl:kts.length=i:=by rw [← l3,List.length_map,hts]
  show wpAny _ A.in1 (updateSeq S (·.push (.ref s.heap.objs.size))>>=_) _ _ _
  refine wpAny_bind ?_
  have I2:=I1.lset (t':=s.toks) (f:=(·.push (.ref s.heap.objs.size))) (ys:=(ts++[s.heap.objs.size]).map V.ref) (its':=kts++[.ref s.heap.objs.size]) hS1 e3 (by simp) (by rw [List.map_append];exact r3.append (.cons rfl .nil)) (by simp;omega)
  refine wpAny_updateSeq e3 rfl (wpAny_pure ⟨plainId_quiet F.plain_extend_loop _,ih (i+1) _ _ (ts++[s.heap.objs.size]) (by omega) hlt I2 ?_ ?_ ?_ ?_ upd_same (by simp [hts]) ?_ ?_⟩) (by simp;omega) (by simp;omega)
  ·exact st'.keep (S:=S) (fun c o hc e=>(Heap.get?_update_other _ _ (Ne.symm hc)).trans e) hSf e3
  ·intro c hc
   obtain ⟨f0,f1⟩:=hf c hc
   have hc1:c≠S:=fun e=>hSf (e▸hc)
   have hc2:c≠s.heap.objs.size:=by
    have:∃ o,s.heap.get? c=some o:=by
     obtain ⟨uu,vv,hto⟩:=st.to
     obtain ⟨o1,q1,_⟩:=st.j1
     obtain ⟨o2,q2,_⟩:=st.j2
     simp only [List.mem_cons,List.not_mem_nil,or_false] at hc
     rcases hc with rfl | rfl | rfl | rfl | rfl
     ·rcases st.zz with e | ⟨_,_,_,e,_⟩ <;> exact ⟨_,e⟩
     ·exact ⟨_,st.ti⟩
     ·exact ⟨_,hto⟩
     ·exact ⟨_,q1⟩
     ·exact ⟨_,q2⟩
    obtain ⟨o,q⟩:=this
    exact Nat.ne_of_lt (Heap.lt_size q)
   exact ⟨by rw [upd_ne hc1,upd_ne hc2];exact f0,f1⟩
  ·rw [upd_ne haS,upd_ne (ne_of_none ha hn)];exact ha
  ·rw [upd_ne hbS,upd_ne (ne_of_none hb hn)];exact hb
  ·intro j t hj
   by_cases hjl:j<ts.length
   ·rw [List.getElem?_append_left hjl] at hj
    obtain ⟨x,y,a1,a2,a3⟩:=TA j t hj
    refine ⟨x,y,a1,a2,?_⟩
    have n1:t≠S:=fun e=>by rw [e,hS] at a3;cases a3
    rw [upd_ne n1,upd_ne (ne_of_none a3 hn)]
    exact a3
   ·have hj':j=i:=by
     have:=(List.getElem?_eq_some_iff.mp hj).1
     simp at this
     omega
    subst hj'
    rw [List.getElem?_append_right (by omega),hts,Nat.sub_self] at hj
    have et:s.heap.objs.size=t:=by simpa using hj
    subst et
    exact ⟨_,_,hx,hy,by rw [upd_ne nST.symm,upd_same]⟩
  ·intro s' H' ts' I' kp hS' hl' TA'
   refine hR s' H' ts' I' (fun c o e n=>kp c o ?_ n) hS' hl' TA'
   have n1:c≠S:=n
   rw [upd_ne n1,upd_ne (ne_of_none e hn)]
   exact e
end L2
namespace L2
open PySem PySem.Spec PyProof.Rows
theorem zip_no_len:typeLookup (.type "zip") "__len__"=pure none:=by rw [typeLookup_type,builtinLookup_eq_fast];kernel_rfl
theorem zip_no_hint:typeLookup (.type "zip") "__length_hint__"=pure none:=by rw [typeLookup_type,builtinLookup_eq_fast];kernel_rfl
theorem zl_extend{X:Cx}{pins:List (Addr×Obj)}{σ:St}{H:Hp}{A:Around}{R:Result→Shared→Prop}{s:Shared}{z TI TO i1 i2 a b S:Addr}{xs ys:List V}{res:Value}(hh:A.handled=none)(D:ZipApart z TI TO i1 i2 a b)(hlen:xs.length=ys.length)(hsz:xs.length≤sizeLine)(hSf:S∉[z,TI,TO,i1,i2])(haS:a≠S)(hbS:b≠S)
  (I:Inv X pins σ H s) (st:Zs s.heap z TI TO i1 i2 a b 0) (hz0:IsZip s.heap z TI TO .none) (hf:∀ c∈[z,TI,TO,i1,i2],FpOk X pins H c) (ha:H a=some (.lst xs)) (hb:H b=some (.lst ys)) (hS:H S=some (.lst []))
  (hR:∀ s' H' ts',Inv X pins σ H' s'→(∀ c o,H c=some o→c≠S→H' c=some o)→H' S=some (.lst (ts'.map V.ref))→ts'.length=xs.length→TupsAt H' ts' xs ys→R (.ok (.ret res)) s') :
  wpAny (model X.prog X.w) A.in1 (Builtin.List.listExtendWith (.ref S) (.ref z) res)
   (fun fin s'=>match fin with | .done f=>R (.ok f) s' | .again c'=>c'.quiet=true∧codeAny (model X.prog X.w) A c' R s') (fun e s'=>R (.error e) s') s:=by
 have hSz:S≠z:=fun e=>hSf (by simp [e])
 have hTz:s.TypeIs (.ref z) "zip":=⟨_,hz0,rfl⟩
 unfold Builtin.List.listExtendWith
 refine wpAny_bind (wpAny_typeOf hTz ?_)
 have h1:Builtin.List.listSameRef (.ref S) (.ref z)=false:=by simp [Builtin.List.listSameRef,hSz]
 have h2:(Value.type "zip"==Value.type "list")=false:=by decide
 have h3:(Value.type "zip"==Value.type "tuple")=false:=by decide
 simp only [h1,h2,h3,Bool.or_false,Bool.false_eq_true,if_false]
 refine wpAny_bind (wpAny_pyIter_zip hz0 ?_)
 refine wpAny_bind (wpAny_holding ?_)
 unfold Builtin.List.listLengthHint
 refine wpAny_bind (wpAny_specialOf hTz zip_no_len ?_)
 show wpAny _ A.in1 (specialOf (Value.ref z) (Str.ofString "__length_hint__")>>=_) _ _ _
 refine wpAny_bind (wpAny_specialOf hTz zip_no_hint ?_)
 refine wpAny_pure ?_
 show wpAny _ A.in1 (rule "list.extend.makes-room">>=fun _=>Builtin.List.listTouch (.ref S)>>=fun _ =>
  again (.builtin "list.extend.loop" ⟨[.ref S,.ref z,res],[]⟩)) _ _ _
 refine wpAny_bind (wpAny_rule ?_)
 refine wpAny_bind ?_
 show wpAny _ A.in1 (updateSeq S (·.push .none)>>=fun _=>updateSeq S (·.pop)) _ _ _
 obtain ⟨z3,kts,n3,r3,l3,e3⟩:=I.lstM hS
 have ek:kts=[]:=List.eq_nil_of_length_eq_zero l3.symm
 subst ek
 have I1:=I.lset (t':=s.toks) (f:=(·.push .none)) (ys:=[.non]) (its':=[.none]) hS e3 (by simp) (.cons rfl .nil) (by decide)
 have hS1:(upd H S (.lst [.non])) S=some (.lst [.non]):=upd_same
 refine wpAny_bind (wpAny_updateSeq e3 rfl ?_)
 have e4:=Heap.get?_update_self (Obj.mapSeq (·.push Value.none)) e3 rfl
 have I2:=I1.lset (t':=s.toks) (f:=(·.pop)) (ys:=[]) (its':=[]) (its:=[.none]) hS1 (by simpa [Obj.mapSeq] using e4) (by simp) .nil (by decide)
 refine wpAny_updateSeq (hz:=by seq_fits) e4 rfl ?_
 have e5:=Heap.get?_update_self (Obj.mapSeq (·.pop)) e4 rfl
 have uu:upd (upd H S (.lst [.non])) S (.lst [])=H:=by
  funext c
  by_cases h:c=S
  ·rw [h,upd_same,hS]
  ·rw [upd_ne h,upd_ne h]
 rw [uu] at I2
 refine wpAny_pure ⟨plainId_quiet F.plain_extend_loop _,zl_loop hh D hlen hsz hSf haS hbS xs.length 0 _ H [] (Nat.sub_zero _) (Nat.zero_le _) I2 ?_ hf ha hb hS rfl (fun j t h=>by simp at h) hR⟩
 exact (st.keep (S:=S) (fun c o hc e=>(Heap.get?_update_other _ _ (Ne.symm hc)).trans e) hSf e3).keep (S:=S) (fun c o hc e=>(Heap.get?_update_other _ _ (Ne.symm hc)).trans e) hSf e4
end L2
namespace L2
open PySem PySem.Spec PyProof.Rows
theorem zl_call{X:Cx}{pins:List (Addr×Obj)}{σ:St}{H:Hp}{A:Around}{Q:Value→Shared→Prop}{E:Value→Shared→Prop}{s:Shared}{z TI TO i1 i2 a b:Addr}{xs ys:List V}(hh:A.handled=none)(D:ZipApart z TI TO i1 i2 a b)(hlen:xs.length=ys.length)(hsz:xs.length≤sizeLine)
  (I:Inv X pins σ H s) (st:Zs s.heap z TI TO i1 i2 a b 0) (hz0:IsZip s.heap z TI TO .none) (hf:∀ c∈[z,TI,TO,i1,i2],FpOk X pins H c) (ha:H a=some (.lst xs)) (hb:H b=some (.lst ys))
  (hQ:∀ S s' H' ts',H S=none→Inv X pins σ H' s'→(∀ c o,H c=some o→H' c=some o)→H' S=some (.lst (ts'.map V.ref))→ts'.length=xs.length→TupsAt H' ts' xs ys→Q (.ref S) s') :
  wpAny (model X.prog X.w) A (call (.type "list") [.ref z]) Q E s:=by
 have hfre:H s.heap.objs.size=none:=I.hok.fresh (Nat.le_refl _)
 have there:∀ c∈[z,TI,TO,i1,i2],c≠s.heap.objs.size:=fun c hc=>by
  have:∃ o,s.heap.get? c=some o:=by
   obtain ⟨uu,vv,hto⟩:=st.to
   obtain ⟨o1,q1,_⟩:=st.j1
   obtain ⟨o2,q2,_⟩:=st.j2
   simp only [List.mem_cons,List.not_mem_nil,or_false] at hc
   rcases hc with rfl | rfl | rfl | rfl | rfl
   ·exact ⟨_,hz0⟩
   ·exact ⟨_,st.ti⟩
   ·exact ⟨_,hto⟩
   ·exact ⟨_,q1⟩
   ·exact ⟨_,q2⟩
  obtain ⟨o,q⟩:=this
  exact Nat.ne_of_lt (Heap.lt_size q)
 have hSf:s.heap.objs.size∉[z,TI,TO,i1,i2]:=fun hm=>there _ hm rfl
 refine callType_codes (Q₁:=fun obj s₁=>obj=.ref s.heap.objs.size∧s₁={s with heap:=s.heap.push {cls:=.type "list",data:=.seq #[]}}) F.called_list (F.typeCall_list_1 _) F.entry_list_init
  (code_list_new _ ⟨rfl,rfl⟩) fun obj s₁ h₁=>?_
 obtain ⟨rfl,rfl⟩:=h₁
 have hS:(s.heap.push {cls:=.type "list",data:=.seq #[]}).get? s.heap.objs.size=some {cls:=.type "list",data:=.seq #[]}:=Heap.get?_push_size _ rfl
 have kk:∀ c o,s.heap.get? c=some o→(s.heap.push {cls:=.type "list",data:=.seq #[]}).get? c=some o:=fun c o e=>Heap.get?_push_of_some _ e
 have I1:=I.turnedNew (h':=s.heap.push {cls:=.type "list",data:=.seq #[]}) (t':=s.toks) (ch:=[]) (T:=s.heap.objs.size) (o:=.lst []) (fun c o _ e=>kk c o e) (fun c hc=>by simp at hc) (Nat.le_refl _) ⟨by decide,[],0,.nil,hS⟩
 refine ⟨⟨_,hS,rfl⟩,F.args_list_init_2 _ _,?_⟩
 show wpAny _ A.in1.in1 (do let old ← Builtin.List.listItems (.ref s.heap.objs.size);Builtin.List.listUpdate (.ref s.heap.objs.size) (fun _=>#[]);letGo old.toList.reverse;Builtin.List.listExtendWith (.ref s.heap.objs.size) (.ref z) .none) _ _ _
 refine wpAny_bind ?_
 unfold Builtin.List.listItems
 refine wpAny_bind (wpAny_seqItems hS rfl (wpAny_pure ?_))
 show wpAny _ A.in1.in1 (updateSeq s.heap.objs.size (fun _=>#[])>>=fun _=>letGo (#[]:Array Value).toList.reverse>>=fun _=>Builtin.List.listExtendWith (.ref s.heap.objs.size) (.ref z) .none) _ _ _
 refine wpAny_bind (wpAny_updateSeq hS rfl ?_)
 have hS1:(upd H s.heap.objs.size (.lst [])) s.heap.objs.size=some (.lst []):=upd_same
 have I2:=I1.lset (t':=s.toks) (f:=fun _=>#[]) (ys:=[]) (its':=[]) (its:=[]) hS1 hS (by simp) .nil (by decide)
 have uu:upd (upd H s.heap.objs.size (.lst [])) s.heap.objs.size (.lst [])=upd H s.heap.objs.size (.lst []):=by
  funext c
  by_cases h:c=s.heap.objs.size
  ·rw [h,upd_same,upd_same]
  ·rw [upd_ne h]
 rw [uu] at I2
 refine wpAny_bind (wpAny_letGo ?_)
 have up:∀ c o,c≠s.heap.objs.size→s.heap.get? c=some o→((s.heap.push {cls:=.type "list",data:=.seq #[]}).update s.heap.objs.size (Obj.mapSeq (fun _=>(#[]:Array Value)))).get? c=some o:=fun c o hc e=>(Heap.get?_update_other _ _ (Ne.symm hc)).trans (kk c o e)
 have st2:Zs ((s.heap.push {cls:=.type "list",data:=.seq #[]}).update s.heap.objs.size (Obj.mapSeq (fun _=>(#[]:Array Value)))) z TI TO i1 i2 a b 0 :=
  ⟨up _ _ (there TI (by simp)) st.ti,let ⟨u,v,e⟩:=st.to;⟨u,v,up _ _ (there TO (by simp)) e⟩,st.j1.at fun o e=>up _ _ (there i1 (by simp)) e,st.j2.at fun o e=>up _ _ (there i2 (by simp)) e,.inl (up _ _ (there z (by simp)) hz0)⟩
 refine zl_extend (A:=A.in1) (res:=.none) hh D hlen hsz hSf (ne_of_none ha hfre) (ne_of_none hb hfre) I2 st2 (up _ _ (there z (by simp)) hz0) (fun c hc=>?_) (by rw [upd_ne (ne_of_none ha hfre)];exact ha) (by rw [upd_ne (ne_of_none hb hfre)];exact hb) hS1 fun s' H' ts' I' kp hS' hl' TA'=>?_
 ·obtain ⟨f0,f1⟩:=hf c hc
  exact ⟨by rw [upd_ne (there c hc)];exact f0,f1⟩
 ·refine ⟨rfl,hQ _ s' H' ts' hfre I' (fun c o e=>kp c o ?_ (ne_of_none e hfre)) hS' hl' TA'⟩
  rw [upd_ne (ne_of_none e hfre)]
  exact e
section
variable{X:Cx}{l l2:Expr}{tl tl2:TE}
noncomputable def tLZip(tl tl2:TE):TE:=fun σ H Q=>tl σ H fun x H1=>tl2 σ H1 fun y H2=>∃ a b xs ys,x=.ref a∧y=.ref b∧H2 a=some (.lst xs)∧H2 b=some (.lst ys)∧xs.length=ys.length∧
 ∀ S ts H',H2 S=none→Same H2 H'→H' S=some (.lst (ts.map V.ref))→ts.length=xs.length→TupsAt H' ts xs ys→Q (.ref S) H'
theorem pe_lzip{p1 p2 q1 q2:Pos}(hc:X.calm=true)(hm1:X.mg "list"=none)(hm2:X.mg "zip"=none)(hg1:Gl X "list")(hg2:Gl X "zip")(hl:PE X l tl)(hl2:PE X l2 tl2)(hs:starEach [l,l2] X.env=[(false,eval l X.env),(false,eval l2 X.env)]:=by rfl)(hs2:starEach [l2] X.env=[(false,eval l2 X.env)]:=by rfl) :
  PE X (.Call (.Name "list" p1) [.Call (.Name "zip" p2) [l,l2] [] q2] [] q1) (tLZip tl tl2):=by
 intro pins s σ H Q I h
 refine wpAny_Call_Name_kw (ld_blt I hg1 hm1 boot_list ?_)
 refine PyProof.Rows.callWith_type1 ?_ rfl rfl
 show wpAny _ _ (spliced ((false,eval (.Call (.Name "zip" p2) [l,l2] [] q2) X.env)::backTo q1 (starEach [] X.env))) _ _ s
 refine Calls.spliced_cons ?_
 refine wpAny_Call_Name_kw (ld_blt I hg2 hm2 boot_zip ?_)
 refine PyProof.Rows.callWith_type1 ?_ (by rw [hs,hs2]) (by rw [hs2];rfl)
 rw [hs]
 show wpAny _ _ (spliced ((false,eval l X.env)::(false,eval l2 X.env)::backTo q2 (starEach [] X.env))) _ _ s
 refine Calls.spliced_cons (thn (hl pins s σ H _ I h) fun u s1 ⟨x,H1,I1,r1,w1⟩=>Calls.spliced_cons (thn (hl2 pins s1 σ H1 _ I1 w1) fun u2 s2 ⟨y,H2,I2,r2,w2⟩=>Calls.spliced_nil ?_))
 obtain ⟨a,b,xs,ys,rfl,rfl,ha,hb,hlen,q⟩:=w2
 cases r1
 cases r2
 obtain ⟨z1,its,n1,v1,l1,e1⟩:=I2.lstM ha
 obtain ⟨z2,jts,n2,v2,l2',e2⟩:=I2.lstM hb
 have la:a<s2.heap.objs.size:=Heap.lt_size e1
 have lb:b<s2.heap.objs.size:=Heap.lt_size e2
 refine call_zip_2 ⟨_,e1,rfl,_,rfl⟩ ⟨_,e2,rfl,_,rfl⟩ fun h' g1 g2 g3 g4 g5 g6 g7=>?_
 have D:ZipApart (s2.heap.objs.size+4) (s2.heap.objs.size+2) (s2.heap.objs.size+3) s2.heap.objs.size (s2.heap.objs.size+1) a b:=zipApart_new la lb
 have I3:=I2.kept (t':=s2.toks) g7
 refine Calls.spliced_nil ?_
 refine zl_call (I2.ok.hd hc) D hlen z1 I3 ⟨g2,⟨_,_,g3⟩,g4,g5,.inl g1⟩ g1 (fun c hc=>?_) ha hb fun S s' H' ts' hS I' kp hS' hl' TA'=>⟨.ref S,H',I',rfl,q S ts' H' hS (fun c o e=>kp c o e) hS' hl' TA'⟩
 have hb':s2.heap.objs.size≤c:=by
  simp only [List.mem_cons,List.not_mem_nil,or_false] at hc
  rcases hc with rfl | rfl | rfl | rfl | rfl
  ·exact Nat.le_add_right _ _
  ·exact Nat.le_add_right _ _
  ·exact Nat.le_add_right _ _
  ·exact Nat.le_refl _
  ·exact Nat.le_add_right _ _
 exact I2.fpOk hb' (I2.hok.fresh hb')
end
end L2
namespace Hv
open PySem L2
theorem cut_one{xs:List V}:cutV xs (some 1) none=xs.drop 1:=by
 unfold cutV
 rw [show (1:Int)=((1:Nat):Int) from rfl,HT.sIx_nat,HT.sIx_none]
 rcases Nat.le_total 1 xs.length with h | h
 ·rw [Nat.min_eq_left h,List.take_of_length_le (by rw [List.length_drop];omega)]
 ·rw [Nat.min_eq_right h,List.drop_of_length_le (Nat.le_refl _),List.drop_of_length_le h]
  simp
theorem rd_of{H H':Hp}{a d:Addr}{o:Obj}{kvs kd:List (Key×V)}(kp:Kp [a] H H')(ha:H a=some (.dK kvs))(fa:H' a=some (.frz o (.dK kvs)))(hd:H d=some (.dK kd)):Rd H' d (.dK kd):=by
 by_cases h:d=a
 ·subst h
  rw [ha] at hd
  cases hd
  exact .inr ⟨o,fa⟩
 ·exact .inl (kp _ _ hd (by simpa using h))
theorem j_step(T n v n2 v2 st A B:Int):T+(n*n2*A+(v*n2*st+n*v2)*B)=T+(n*(n2*A+v2*B)+v*(n2*st*B)):=by
 have e1:v*n2*st*B=v*(n2*st*B):=by rw [Int.mul_assoc v,Int.mul_assoc v]
 rw [Int.add_mul,e1,Int.mul_add,Int.mul_assoc n n2,Int.mul_assoc n v2]
 omega
section
variable{P:Program}{w:World}{K:PySem.W.Frag}{mg:Str→Option Value}{base:Heap}
theorem scJoined:FnScope ["frame","sums_by_part","joined","length","by_sums","stand","longer","total","ahead","behind","worth"] ["frame","sums_by_part"] (defScope sJoined):=⟨rfl,rfl,rfl,by decide +kernel,rfl,by decide +kernel,by decide +kernel⟩
theorem ok_joined{f:Addr}{fd:FuncData}(F:Fun K "joined_worth" "joined_worth" sJoined f fd)(T:Txt mg)(DS:Def P w K mg base 1 "stands_of" ["base","length"] spStands):FnOk P w K mg base CX0 2 f fd ["frame","sums_by_part"] spJoined:=by
 refine F.ok scJoined (fun vs H Q E h=>?_) (fun cdv A outer s H vs Q E hr h=>?_)
 ·obtain ⟨g,A,c,b,ps,ws,sl,ds,x,rfl,_⟩:=h;rfl
 ·obtain ⟨g,A',c,b,ps,ws,sl,ds,x,rfl,G,hsl,hdl,SO,PR,k⟩:=h
  have nd:=scJoined.nd
  have hu:=hu_of hr
  refine ⟨_,pss_cons (ps_set (i:=2) nd rfl (Or.inl rfl) (ixl (pv 1) pe_int))
   (pss_cons (ps_for PassesOwn.never rfl (pi_list (pe_slice sl_list (pe_lzip rfl T.list T.zip (by rfl) (by rfl) (ixt (pv 0) pe_int) (pv 1)) (po_some pe_int) po_none)) (pg_tup rfl (pgs_cons (pg_name (i:=3) nd rfl (Or.inl rfl)) (pgs_cons (pg_name (i:=4) nd rfl (Or.inl rfl)) pgs_nil)))
    (pss_cons (ps_set (i:=5) nd rfl (Or.inl rfl) (ixl (pe_fn DS hr (by rfl) (pa_cons (ixt (pv 0) pe_int) (pa_cons (pv 3) pa_nil))) (pe_un un_neg pe_int)))
    (pss_cons (ps_set (i:=6) nd rfl (Or.inl rfl) pe_dnewK)
    (pss_cons (ps_for PassesOwn.never rfl (pi_dict (pv 2)) (pg_name (i:=7) nd rfl (Or.inl rfl))
     (pss_one (ps_if (pt_cmp (pc_din hu (pv 7) (pv 4)))
      (pss_cons (ps_set (i:=8) nd rfl (Or.inl rfl) (pe_dget hu (pv 2) (pv 7) (fun _ _=>rfl)))
      (pss_cons (ps_set (i:=9) nd rfl (Or.inl rfl) (pe_dget hu (pv 4) (pv 7) (fun _ _=>rfl)))
      (pss_cons (ps_set (i:=10) nd rfl (Or.inl rfl) (pe_op op_add (pe_op op_mul (pe_op op_mul (ixt (pv 8) pe_int) (ixt (pv 9) pe_int)) (pv 5)) (pe_op op_mul (ixt (pv 8) pe_int) (ixt (pv 9) pe_int))))
      (pss_one (ps_dput hu (pv 6) (pv 7) (pe_tup (pa_cons (pe_op op_mul (ixt (pv 8) pe_int) (ixt (pv 9) pe_int)) (pa_cons (pv 10) pa_nil))) rfl)))))
      pss_nil)))
    (pss_thaw (pss_one (ps_set (i:=2) nd rfl (Or.inl rfl) (pv 6))))))))
   (pss_one (ps_ret (pe_callB (call_sumA rfl) (by rfl) T.sum boot_sum (pa_cons (pe_cmp1 (defScope sJoined) ["frame","sums_by_part","joined","length","by_sums","stand","longer","total","ahead","behind","worth"] [] [] rfl (pi_vals (pv 2)) (fun cl C s H fp=>pf_nil) (fun cl C s H fp=>ixtK K rfl (pv 0) pe_int) (by decide +kernel)) pa_nil))))),?_⟩
  have ok:=G.ok
  have l4:=ok.l4
  have l2:=ok.l2
  have b2:=ok.b2
  have b0:0<b:=by omega
  have b16:=ok.b16
  obtain ⟨row0,hrow0⟩:∃ row0,(Ma.cuts ps ws)[0]?=some row0:=⟨_,List.getElem?_eq_getElem (by rw [Ma.cuts_len];omega)⟩
  obtain ⟨l0,hl0⟩:∃ l,ps[0]?=some l:=⟨_,List.getElem?_eq_getElem (by omega)⟩
  obtain ⟨d0,hd0⟩:∃ d,ds[0]?=some d:=⟨_,List.getElem?_eq_getElem (by omega)⟩
  obtain ⟨kv0,h0,a1,a2,a3⟩:=PR 0 l0 row0 d0 hl0 hrow0 hd0
  refine ⟨_,rfl,r_ixl hsl (show atI _ 0=_ from atI_nat (j:=0) (v:=.ref d0) (by rw [List.getElem?_map,hd0];rfl)) ?_⟩
  refine ⟨_,rfl,_,_,_,_,rfl,rfl,SqT.of G.tp,rfl,_,rfl,A',sl,_,_,rfl,rfl,G.hp,hsl,by simp [hdl],fun S ts H1 hS s1 hS1 htl TA=>?_⟩
  refine ⟨_,rfl,S,_,rfl,SqL.of hS1,fun p hp=>?_⟩
  rw [cut_one]
  have s2:=same_upd (o:=.lst ((ts.map V.ref).drop 1)) hp
  have u2:(upd H1 p (.lst ((ts.map V.ref).drop 1))) p=_:=upd_same
  generalize upd H1 p (.lst ((ts.map V.ref).drop 1))=H2 at s2 u2⊢
  have S2:=s1.trans s2
  have tlen:ts.length=ps.length:=by rw [htl];simp [natV]
  refine ⟨p,rfl,⟨_,SqL.of u2⟩,for_list (K:=K) (a:=p) (xs:=(ts.map V.ref).drop 1) (fun i σ H3=>∃ (jd:Addr) (kj:List (Key×V)) (hj:Mu.Tri) (v3 v4 v5 v6 v7 v8 v9 v10:Option V),σ=[some (.ref g),some (.ref sl),some (.ref jd),v3,v4,v5,v6,v7,v8,v9,v10]∧Same H2 H3∧(i=0∨H jd=none)∧H3 jd=some (.dK kj)∧PT H3 kj hj∧
    Mu.Rep hj 810 (Mu.lo b x.1 x.2.1 (ps.take (i+1)).sum) (Mu.cn b x.2.1 x.2.2 (ps.take (i+1)).sum) (Mu.chainC b row0 (((Ma.cuts ps ws).drop 1).take i)).1 (Mu.chainC b row0 (((Ma.cuts ps ws).drop 1).take i)).2)
   ⟨d0,kv0,h0,none,none,none,none,none,none,none,none,rfl,Same.refl _,.inl rfl,S2 _ _ a1,a2.keep S2,?_⟩ (fun i σ H3 _ h=>by obtain ⟨_,_,_,_,_,_,_,_,_,_,_,_,z,_⟩:=h;exact SqL.of (z _ _ u2)) ?_ ?_⟩
  ·have e1:(ps.take (0+1)).sum=0+l0:=by rw [List.take_add_one,hl0];simp
   have st:=Mu.part_step (b:=b) (a:=x.1) (pl:=x.2.1) (e:=x.2.2) (o:=0) (l:=l0) b0 SO.eb
   rw [e1,st.1,st.2.1,Mu.lo_zero SO.ha,Mu.cn_zero,Nat.zero_mul,Nat.zero_add,Nat.one_mul]
   exact a3
  ·rintro i tx σ H3 hx ⟨jd,kj,hj,v3,v4,v5,v6,v7,v8,v9,v10,rfl,s3,hnew,hjd,pj,RJ⟩
   rw [List.getElem?_drop] at hx
   obtain ⟨t,ht,rfl⟩:=ref_at hx
   obtain ⟨xv,yv,hxv,hyv,htt⟩:=TA _ t ht
   obtain ⟨l,hl,rfl⟩:∃ l,ps[1+i]?=some l∧xv=.int (l:Int):=by
    rw [natV,List.getElem?_map] at hxv
    cases e:ps[1+i]? with
    | none=>rw [e] at hxv;cases hxv
    | some d=>rw [e] at hxv;exact ⟨d,rfl,(Option.some.inj hxv).symm⟩
   obtain ⟨d,hd,rfl⟩:=ref_at hyv
   have hrow:=Ma.cuts_get ps ws (1+i) l hl
   generalize er:(ws.drop (ps.take (1+i)).sum).take l=row at hrow
   have hrl:row.length=l:=by
    have h1:=Me.cuts_lens ps ws ok.wl
    have h2:((Ma.cuts ps ws).map List.length)[1+i]?=some row.length:=by rw [List.getElem?_map,hrow];rfl
    rw [h1,hl] at h2
    exact (Option.some.inj h2).symm
   have hl6:=ok.pr l (List.mem_of_getElem? hl)
   obtain ⟨kd,hg,c1,c2,c3⟩:=PR (1+i) l row d hl hrow hd
   have S3:=S2.trans s3
   have G3:=G.keep S3
   refine ⟨t,_,rfl,SqT.of (s3 _ _ (s2 _ _ htt)),rfl,_,_,rfl,_,_,rfl,rfl,?_⟩
   refine ⟨_,rfl,_,_,_,_,rfl,rfl,SqT.of G3.tp,rfl,_,rfl,b,l,rfl,b16,hl6.2,fun sp H4 hsp s4 hsp4=>?_⟩
   refine ⟨_,rfl,r_ixl hsp4 (powL_last b l) ?_⟩
   intro lp hlp
   have hst:=Mu.part_step (b:=b) (a:=x.1) (pl:=x.2.1) (e:=x.2.2) (o:=(ps.take (i+1)).sum) (l:=l) b0 SO.eb
   have S4:=S3.trans s4
   have hjd4:=s4 _ _ hjd
   have njl:jd≠lp:=ne_of_none hjd4 hlp
   have pj4:=PT.keep pj s4
   have d4:=S4 _ _ c1
   have c24:=PT.keep c2 S4
   have hlpH:H lp=none:=S4.free hlp
   have hpw:b ^ l≤16 ^ 6:=Nat.le_trans (Nat.pow_le_pow_left b16 _) (Nat.pow_le_pow_right (by decide) hl6.2)
   have h16:(16:Nat) ^ 6=16777216:=by decide
   obtain ⟨rows,hrows⟩:∃ rows,rows=(Ma.cuts ps ws).drop 1:=⟨_,rfl⟩
   rw [← hrows] at RJ⊢
   have hrow1:rows[i]?=some row:=by rw [hrows,List.getElem?_drop];exact hrow
   refine ⟨_,rfl,jd,kj,rfl,(by rw [upd_ne njl];exact hjd4),fun o=>for_dict (fun m σ H5=>∃ v7 v8 v9 v10,σ=[some (.ref g),some (.ref sl),some (.ref jd),some (.int l),some (.ref d),some (.int ((b ^ l:Nat):Int)),some (.ref lp),v7,v8,v9,v10]∧H5 jd=some (.frz o (.dK kj))∧Kp [jd] H4 H5∧∃ kl hl',H5 lp=some (.dK kl)∧PT H5 kl hl'∧Mu.OkT hl' 810∧(∀ k∈Mu.keyT hl',k∈Mu.keyT (hj.take m))∧
     ∀ A B,Mu.TT hl' A B=Mu.TT (hj.take m) (fun t=>(Mu.gT hg t).1*A t+(Mu.gT hg t).2*B t) (fun t=>(Mu.gT hg t).1*((b ^ l:Nat):Int)*B t))
    ⟨v7,v8,v9,v10,rfl,upd_same,kp_upd (kp_upd Kp.refl (.inr hlp)) (.inl (by simp)),[],[],?_,.nil,Mu.OkT.nil,fun k hk=>by simp [Mu.keyT] at hk,fun A B=>rfl⟩ (fun m σ H5 _ h=>by obtain ⟨_,_,_,_,_,z,_⟩:=h;exact z) ?_ ?_⟩
   ·rw [upd_ne njl.symm,upd_same]
   ·rintro m kk v σ H5 hk ⟨v7,v8,v9,v10,rfl,fj,kp5,kl,hl',lp5,pl5,ok5,ks5,eq5⟩
    obtain ⟨q,hq,hkk,_⟩:=Paired.at pj4 hk
    have hkk':kk=Sum.inl q.1:=hkk
    subst hkk'
    have qm:=List.mem_of_getElem? hq
    have qb:=RJ.ok.bd q.1 (List.mem_map.mpr ⟨q,qm,rfl⟩)
    have pj5:PT H5 kj hj:=PT.kp pj4 kp5 hjd4 (fun xs z=>nomatch z)
    have pd5:PT H5 kd hg:=PT.kp c24 kp5 hjd4 (fun xs z=>nomatch z)
    have rd5:Rd H5 d (.dK kd):=rd_of kp5 hjd4 fj d4
    obtain ⟨tu,et,htu⟩:∃ tu,valV kj (Sum.inl q.1)=some (.ref tu)∧H5 tu=some (.tup [.int q.2.1,.int q.2.2]):=by
     rcases PT.val q.1 pj5 with ⟨a1,a2⟩ | ⟨m,x,a1,a2,a3⟩
     ·rw [Mu.look_memT RJ.ok.nd qm] at a2;cases a2
     ·rw [Mu.look_memT RJ.ok.nd qm] at a1
      cases a1
      exact ⟨x,a2,a3⟩
    have dgj:DGet H5 jd (.int q.1) (some (.ref tu)):=.inl ⟨kj,Sum.inl q.1,.inr ⟨o,fj⟩,rfl,et.symm⟩
    have hlen:=Mu.OkT.len (m:=810) ok5
    have qn:q.1∉Mu.keyT hl':=fun z=>by
     have h1:=ks5 _ z
     obtain ⟨r,hr,er⟩:=List.mem_map.mp h1
     obtain ⟨n,hn⟩:=List.getElem?_of_mem hr
     have hnm:n<m:=by
      have:=(List.getElem?_eq_some_iff.mp hn).1
      rw [List.length_take] at this
      omega
     rw [List.getElem?_take_of_lt hnm] at hn
     have e1:(Mu.keyT hj)[n]?=some q.1:=by rw [Mu.keyT,List.getElem?_map,hn];simp [er]
     have e2:(Mu.keyT hj)[m]?=some q.1:=by rw [Mu.keyT,List.getElem?_map,hq];rfl
     have hn1:=(List.getElem?_eq_some_iff.mp e1).1
     have:=(List.getElem?_inj hn1 RJ.ok.nd).mp (e1.trans e2.symm)
     omega
    have ks6:∀ k∈Mu.keyT hl',k∈Mu.keyT (hj.take (m+1)):=fun k hk=>by
     have h1:=ks5 k hk
     rw [List.take_add_one]
     simp only [Mu.keyT,List.map_append,List.mem_append]
     exact .inl h1
    rcases PT.val q.1 pd5 with ⟨f1,f2⟩ | ⟨n2,tb,f1,f2,f3⟩
    ·refine ⟨_,rfl,_,rfl,d,none,rfl,.inl ⟨kd,Sum.inl q.1,rd5,rfl,f1.symm⟩,_,rfl,iteF ?_⟩
     refine ⟨_,_,_,_,rfl,fj,kp5,kl,hl',lp5,pl5,ok5,ks6,fun A B=>?_⟩
     have e0:Mu.gT hg q.1=(0,0):=by unfold Mu.gT;rw [f2];rfl
     rw [eq5 A B,Mu.TT_take hq,e0]
     simp
    ·have e0:Mu.gT hg q.1=n2:=by unfold Mu.gT;rw [f1];rfl
     have w1:=c3.ways_in one01 q.1
     have w2:=c3.worth_in one01 q.1
     rw [e0] at w1 w2
     have hst':=Mu.part_step (b:=b) (a:=x.1) (pl:=x.2.1) (e:=x.2.2) (o:=(ps.take (1+i)).sum) (l:=l) b0 SO.eb
     have hpc:Mu.pcn b x.2.1 x.2.2 (ps.take (1+i)).sum l≤16777216:=by omega
     have hpl:Mu.plo b x.1 x.2.1 (ps.take (1+i)).sum l+Mu.pcn b x.2.1 x.2.2 (ps.take (1+i)).sum l≤16777216:=by omega
     have w3:n2.2≤16777216*16777216:=Int.le_trans w2.2 (Int.mul_le_mul (by omega) (by omega) (by omega) (by decide))
     have dgd:DGet H5 d (.int q.1) (some (.ref tb)):=.inl ⟨kd,Sum.inl q.1,rd5,rfl,f2.symm⟩
     refine ⟨_,rfl,_,rfl,d,some (.ref tb),rfl,dgd,_,rfl,iteT ?_⟩
     refine ⟨_,rfl,_,rfl,jd,.ref tu,rfl,dgj,?_⟩
     refine ⟨_,rfl,_,rfl,d,.ref tb,rfl,dgd,?_⟩
     refine ⟨_,rfl,tu,_,1,_,rfl,rfl,SqT.of htu,rfl,_,rfl,tb,_,0,_,rfl,rfl,SqT.of f3,rfl,_,_,rfl,rfl,.inr ⟨by omega,by omega⟩,_,rfl,_,_,rfl,rfl,.inr ⟨by omega,by omega⟩,?_⟩
     refine ⟨_,rfl,tu,_,0,_,rfl,rfl,SqT.of htu,rfl,_,rfl,tb,_,1,_,rfl,rfl,SqT.of f3,rfl,_,_,rfl,rfl,.inr ⟨by omega,by omega⟩,_,_,rfl,rfl,?_⟩
     refine ⟨_,rfl,tu,_,0,_,rfl,rfl,SqT.of htu,rfl,_,rfl,tb,_,0,_,rfl,rfl,SqT.of f3,rfl,_,_,rfl,rfl,.inr ⟨by omega,by omega⟩,_,rfl,sz (by simp),fun tp htp=>?_⟩
     have s6:=same_upd (o:=.tup [.int (q.2.1*n2.1),.int (q.2.2*n2.1*((b ^ l:Nat):Int)+q.2.1*n2.2)]) htp
     have u6:(upd H5 tp (.tup [.int (q.2.1*n2.1),.int (q.2.2*n2.1*((b ^ l:Nat):Int)+q.2.1*n2.2)])) tp=_:=upd_same
     show ∃ _,_
     generalize upd H5 tp (.tup [.int (q.2.1*n2.1),.int (q.2.2*n2.1*((b ^ l:Nat):Int)+q.2.1*n2.2)])=H6 at s6 u6⊢
     have lp6:=s6 _ _ lp5
     refine ⟨_,rfl,_,rfl,lp,_,rfl,DPut.k (k:=Sum.inl q.1) lp6 (szl (by rw [PT.len pl5];omega)),?_⟩
     have kp6:Kp [jd] H4 H6:=fun y ob e n=>s6 _ _ (kp5 y ob e n)
     refine ⟨_,_,_,_,rfl,?_,?_,_,_,upd_same,PT.kp (PT.put (n:=(q.2.1*n2.1,q.2.2*n2.1*((b ^ l:Nat):Int)+q.2.1*n2.2)) (PT.keep pl5 s6) u6) (kp_upd Kp.refl (.inl (by simp))) lp6 (fun xs z=>nomatch z),ok5.put qb,?_,fun A B=>?_⟩
     ·rw [upd_ne njl];exact s6 _ _ fj
     ·exact kp_upd kp6 (.inr hlp)
     ·intro k hk
      rw [Mu.keys_putT,if_neg qn] at hk
      rcases List.mem_append.mp hk with hk | hk
      ·exact ks6 k hk
      ·have hk':k=q.1:=by simpa using hk
       rw [List.take_add_one,hq,hk']
       simp [Mu.keyT]
     ·rw [Mu.TT_put qn,eq5 A B,Mu.TT_take hq,e0]
      exact j_step _ _ _ _ _ _ _ _
   ·rintro σ H5 ⟨v7,v8,v9,v10,rfl,fj,kp5,kl,hl',lp5,pl5,ok5,ks5,eq5⟩
    have el:kj.length=hj.length:=PT.len pj4
    rw [el,List.take_length] at eq5
    refine ⟨jd,o,kj,fj,(fun o' u z=>by
     have z':H jd=some (.frz o' u):=z
     have:=S3 _ _ z'
     rw [hjd] at this;cases this),_,rfl,lp,kl,hl',_,_,_,_,_,_,_,_,rfl,fun y ob e=>?_,.inr hlpH,?_,PT.tups pl5 fun tt xs e=>?_,?_⟩
    ·by_cases hy:y=jd
     ·rw [hy,upd_same,← hjd,← hy];exact s3 _ _ e
     ·rw [upd_ne hy];exact kp5 y ob (s4 _ _ (s3 _ _ e)) (by simpa using hy)
    ·rw [upd_ne njl.symm];exact lp5
    ·have hy:tt≠jd:=fun z=>by rw [z,fj] at e;cases e
     rw [upd_ne hy];exact e
    ·have e1:(ps.take (i+1+1)).sum=(ps.take (i+1)).sum+l:=by
      rw [List.take_add_one,show i+1=1+i by omega,hl];simp
     have e2:1+i=i+1:=by omega
     rw [e2] at c3
     rw [e1,hst.1,hst.2.1,Mu.chain_take hrow1]
     have R:=Mu.Rep.join (k:=hl') (m':=810) RJ c3 hst.2.2.2 hst.2.2.1 ok5 eq5
     have e3:Mu.stepC b (Mu.chainC b row0 (rows.take i)) row=(fun y=>(Mu.chainC b row0 (rows.take i)).1 (y / b ^ l),fun y=>(Mu.chainC b row0 (rows.take i)).2 (y / b ^ l)*if Mg.ws1 b (y % b ^ l) row=(Mu.chainC b row0 (rows.take i)).1 (y / b ^ l) then 1 else 0):=by
      unfold Mu.stepC;rw [hrl]
     rw [e3]
     exact R
  ·rintro σ H3 ⟨jd,kj,hj,v3,v4,v5,v6,v7,v8,v9,v10,rfl,s3,hnew,hjd,pj,RJ⟩
   have el:((ts.map V.ref).drop 1).length+1=ps.length:=by rw [List.length_drop,List.length_map,tlen];omega
   have el2:((ts.map V.ref).drop 1).length=((Ma.cuts ps ws).drop 1).length:=by rw [List.length_drop,List.length_drop,List.length_map,tlen,Ma.cuts_len]
   rw [el,List.take_length,el2,List.take_length] at RJ
   have hjn:H jd=none:=hnew.resolve_left (by omega)
   have hlen:=Mu.OkT.len (m:=810) RJ.ok
   have ele:kj.length=hj.length:=PT.len pj
   refine ⟨_,rfl,jd,kj,rfl,hjd,fun o=>comp_vals (fun i ys H4=>ys=((hj.take i).map fun q=>q.2.2).map V.int∧H4=upd H3 jd (.frz o (.dK kj))) ⟨rfl,rfl⟩ (fun i ys H4 _ q=>by rw [q.2,upd_same]) ?_ ?_⟩
   ·rintro i k v ys H4 hk ⟨rfl,rfl⟩
    obtain ⟨q,hq,_,tu,e1,e2⟩:=Paired.at pj hk
    have e1':v=.ref tu:=e1
    subst e1'
    have ntj:tu≠jd:=fun z=>by rw [z,hjd] at e2;cases e2
    refine ⟨szl (by simp;omega),_,rfl,tu,_,1,_,rfl,rfl,SqT.of (by rw [upd_ne ntj];exact e2),rfl,?_,rfl⟩
    rw [List.take_add_one,hq]
    simp
   ·rintro ys H4 ⟨rfl,rfl⟩ D hD
    rw [ele,List.take_length]
    refine ⟨D,_,rfl,SqL.of upd_same,?_⟩
    rw [RJ.whole]
    have hend:=Mu.lo_end (b:=b) SO.pl
    rw [hend.1,hend.2]
    refine k row0 _ (fun y ob e=>?_) hrow0
    have ny:y≠jd:=fun z=>by rw [z,hjn] at e;cases e
    have nD:y≠D:=fun z=>by
     have h1:=hD
     rw [← z,upd_ne ny,s3 _ _ (S2 _ _ e)] at h1
     cases h1
    rw [upd_ne nD,upd_ne ny]
    exact s3 _ _ (S2 _ _ e)
end
end Hv
namespace Mu
open Me Mg
theorem chain_fold{b:Nat}(hb:0<b):∀ (ps:List Nat) (ws:List Int) (sc:(Nat→Int)×(Nat→Int)) (q m:Nat),ws.length=ps.sum→m<b ^ ps.sum→
  ((Ma.cuts ps ws).foldl (stepC b) sc).1 (q*b ^ ps.sum+m)=sc.1 q∧((Ma.cuts ps ws).foldl (stepC b) sc).2 (q*b ^ ps.sum+m)=sc.2 q*if ∀ v∈sumsN b m ps ws,v=sc.1 q then 1 else 0
 | [],ws,sc,q,m,hw,hm=>by
  have h0:m=0:=by simpa using hm
  subst h0
  have e:sumsN b 0 [] ws=[]:=rfl
  rw [e]
  simp [Ma.cuts]
 | p::ps,ws,sc,q,m,hw,hm=>by
  rw [List.sum_cons] at hw hm
  have hl:(ws.take p).length=p:=by rw [List.length_take];omega
  have hL0:0<b ^ ps.sum:=Nat.pow_pos hb
  have hP0:0<b ^ p:=Nat.pow_pos hb
  obtain ⟨d,hd⟩:∃ d,d=m / b ^ ps.sum:=⟨_,rfl⟩
  obtain ⟨m',hm'⟩:∃ m',m'=m % b ^ ps.sum:=⟨_,rfl⟩
  have em:m=d*b ^ ps.sum+m':=by rw [hd,hm',Nat.mul_comm];exact (Nat.div_add_mod m _).symm
  have hm2:m'<b ^ ps.sum:=by rw [hm'];exact Nat.mod_lt _ hL0
  have hdp:d<b ^ p:=by rw [hd];exact Nat.div_lt_of_lt_mul (by rw [← Nat.pow_add,Nat.add_comm];exact hm)
  rw [Ma.cuts,List.foldl_cons]
  have eq:q*b ^ (p::ps).sum+m=(q*b ^ p+d)*b ^ ps.sum+m':=by
   rw [List.sum_cons,Nat.pow_add,em,Nat.add_mul,Nat.mul_assoc]
   omega
  rw [eq]
  have ih:=chain_fold hb ps (ws.drop p) (stepC b sc (ws.take p)) (q*b ^ p+d) m' (by rw [List.length_drop];omega) hm2
  rw [ih.1,ih.2]
  have d1:(q*b ^ p+d) / b ^ p=q:=by rw [Nat.mul_comm,Nat.mul_add_div hP0,Nat.div_eq_of_lt hdp,Nat.add_zero]
  have d2:(q*b ^ p+d) % b ^ p=d:=by rw [Nat.mul_comm,Nat.mul_add_mod,Nat.mod_eq_of_lt hdp]
  have s1:(stepC b sc (ws.take p)).1 (q*b ^ p+d)=sc.1 q:=by unfold stepC;simp only;rw [hl,d1]
  have s2:(stepC b sc (ws.take p)).2 (q*b ^ p+d)=sc.2 q*if ws1 b d (ws.take p)=sc.1 q then 1 else 0:=by unfold stepC;simp only;rw [hl,d1,d2]
  rw [s1,s2,em,sums_cons hb hm2 hw]
  refine ⟨rfl,?_⟩
  rw [Int.mul_assoc]
  congr 1
  by_cases h1:ws1 b d (ws.take p)=sc.1 q
  ·by_cases h2:∀ v∈sumsN b m' ps (ws.drop p),v=sc.1 q
   ·rw [if_pos h1,if_pos h2,if_pos]
    ·rfl
    ·intro v hv
     rcases List.mem_cons.mp hv with rfl | hv
     ·exact h1
     ·exact h2 v hv
   ·have e2:¬ ∀ v∈ws1 b d (ws.take p)::sumsN b m' ps (ws.drop p),v=sc.1 q:=fun z=>h2 fun v hv=>z v (List.mem_cons_of_mem _ hv)
    rw [if_pos h1,if_neg h2,if_neg e2]
    rfl
  ·have e2:¬ ∀ v∈ws1 b d (ws.take p)::sumsN b m' ps (ws.drop p),v=sc.1 q:=fun z=>h1 (z _ List.mem_cons_self)
   rw [if_neg h1,if_neg e2,Int.zero_mul]
theorem sprd_cons(x:Int)(v:List Int):sprd (x::v)=0↔∀ y∈v,y=x:=by
 obtain ⟨m1,m2⟩:=Ma.minL_spec (x::v) (by simp)
 obtain ⟨m3,m4⟩:=Ma.maxL_spec (x::v) (by simp)
 unfold sprd
 constructor
 ·intro h y hy
  have a1:=m2 y (List.mem_cons_of_mem _ hy)
  have a2:=m4 y (List.mem_cons_of_mem _ hy)
  have a3:=m2 x List.mem_cons_self
  have a4:=m4 x List.mem_cons_self
  omega
 ·intro h
  have g:∀ y∈x::v,y=x:=fun y hy=>by
   rcases List.mem_cons.mp hy with e | hy
   ·exact e
   ·exact h y hy
  rw [g _ m1,g _ m3]
  omega
theorem chain_ev{b:Nat}(hb:0<b){ps:List Nat}{ws:List Int}(hw:ws.length=ps.sum){row:List Int}(h0:(Ma.cuts ps ws)[0]?=some row){n:Nat}(hn:n<b ^ ps.sum):(chainC b row ((Ma.cuts ps ws).drop 1)).2 n=if sprd (sumsN b n ps ws)=0 then 1 else 0:=by
 cases ps with
 | nil=>simp [Ma.cuts] at h0
 | cons p ps =>
  rw [Ma.cuts] at h0⊢
  have er:ws.take p=row:=by simpa using h0
  rw [List.sum_cons] at hw hn
  have hL0:0<b ^ ps.sum:=Nat.pow_pos hb
  have em:n=n / b ^ ps.sum*b ^ ps.sum+n % b ^ ps.sum:=by rw [Nat.mul_comm];exact (Nat.div_add_mod n _).symm
  have hm2:n % b ^ ps.sum<b ^ ps.sum:=Nat.mod_lt _ hL0
  rw [em]
  generalize n / b ^ ps.sum=d at *
  generalize n % b ^ ps.sum=m at *
  rw [sums_cons hb hm2 hw,List.drop_succ_cons,List.drop_zero]
  unfold chainC
  rw [(chain_fold hb ps (ws.drop p) _ d m (by rw [List.length_drop];omega) hm2).2,er,Int.one_mul]
  by_cases h:∀ v∈sumsN b m ps (ws.drop p),v=ws1 b d row
  ·rw [if_pos h,if_pos ((sprd_cons _ _).mpr h)]
  ·rw [if_neg h,if_neg fun z=>h ((sprd_cons _ _).mp z)]
end Mu
namespace Mu
open Me Mg
theorem ns_right(u:Nat→Int)(X:Int)(n:Nat):ns (fun j=>u j*X) n=ns u n*X:=by
 have:(fun j=>u j*X)=fun j=>X*u j:=funext fun j=>Int.mul_comm _ _
 rw [this,ns_mul,Int.mul_comm]
noncomputable def bh(l:List ((Int×Int)×Int))(s:Int×Int):Int×Int:=l.foldl (fun p q=>(p.1*q.1.1,p.2*q.2*q.1.1+p.1*q.1.2)) s
noncomputable def pwP(l:List ((Int×Int)×Int)):Int:=l.foldr (fun q x=>q.2*x) 1
theorem bh_cons(q:(Int×Int)×Int)(l:List ((Int×Int)×Int))(s:Int×Int):bh (q::l) s=bh l (s.1*q.1.1,s.2*q.2*q.1.1+s.1*q.1.2):=rfl
theorem bh_lin:∀ (l:List ((Int×Int)×Int)) (n v:Int),bh l (n,v)=(n*(bh l (1,0)).1,v*pwP l*(bh l (1,0)).1+n*(bh l (1,0)).2)
 | [],n,v=>by simp [bh,pwP]
 | q::l,n,v=>by
  rw [bh_cons,bh_cons,bh_lin l (n*q.1.1),bh_lin l (1*q.1.1)]
  have e:pwP (q::l)=q.2*pwP l:=rfl
  rw [e]
  generalize (bh l (1,0)).1=A
  generalize (bh l (1,0)).2=B
  generalize pwP l=P
  refine Prod.ext ?_ ?_
  ·simp only
   grind
  ·simp only
   grind
noncomputable def wg(b:Nat)(row:List Int)(one:Int):Int×Int:=(ns (fun v=>if ws1 b v row=one then 1 else 0) (b ^ row.length),ns (fun v=>if ws1 b v row=one then (v:Int) else 0) (b ^ row.length))
theorem rep_wg{h:Tri}{m:Int}{b:Nat}{row:List Int}(R:Rep h m 0 (b ^ row.length) (fun n=>ws1 b n row) fun _=>1)(one:Int):gT h one=wg b row one:=by
 refine Prod.ext ?_ ?_
 ·rw [R.ways]
  refine ns_congr fun i _=>?_
  simp only [Nat.zero_add]
 ·rw [R.worth]
  refine ns_congr fun i _=>?_
  simp only [Nat.zero_add,Int.one_mul]
noncomputable def lst(b:Nat)(rows:List (List Int))(one:Int):List ((Int×Int)×Int):=rows.map fun row=>(wg b row one,((b ^ row.length:Nat):Int))
noncomputable def allS(b:Nat)(ps:List Nat)(ws:List Int)(one:Int)(z:Nat):Int:=if ∀ v∈sumsN b z ps ws,v=one then 1 else 0
theorem allS_cons{b d m p:Nat}{ps:List Nat}{ws:List Int}{one:Int}(hb:0<b)(hm:m<b ^ ps.sum)(hw:ws.length=p+ps.sum):allS b (p::ps) ws one (d*b ^ ps.sum+m)=(if ws1 b d (ws.take p)=one then 1 else 0)*allS b ps (ws.drop p) one m:=by
 unfold allS
 rw [sums_cons hb hm hw]
 by_cases h1:ws1 b d (ws.take p)=one
 ·by_cases h2:∀ v∈sumsN b m ps (ws.drop p),v=one
  ·rw [if_pos h1,if_pos h2,if_pos]
   ·rfl
   ·intro v hv
    rcases List.mem_cons.mp hv with rfl | hv
    ·exact h1
    ·exact h2 v hv
  ·have e2:¬ ∀ v∈ws1 b d (ws.take p)::sumsN b m ps (ws.drop p),v=one:=fun z=>h2 fun v hv=>z v (List.mem_cons_of_mem _ hv)
   rw [if_pos h1,if_neg h2,if_neg e2]
   rfl
 ·have e2:¬ ∀ v∈ws1 b d (ws.take p)::sumsN b m ps (ws.drop p),v=one:=fun z=>h1 (z _ List.mem_cons_self)
  rw [if_neg h1,if_neg e2,Int.zero_mul]
theorem bh_rows{b:Nat}(hb:0<b)(one:Int):∀ (ps:List Nat) (ws:List Int),ws.length=ps.sum→bh (lst b (Ma.cuts ps ws) one) (1,0)=(ns (allS b ps ws one) (b ^ ps.sum),ns (fun z=>allS b ps ws one z*(z:Int)) (b ^ ps.sum))∧pwP (lst b (Ma.cuts ps ws) one)=((b ^ ps.sum:Nat):Int)
 | [],ws,hw=>by
  have e:∀ z,allS b [] ws one z=1:=fun z=>by
   unfold allS
   have:sumsN b z [] ws=[]:=rfl
   rw [this]
   simp
  have e1:lst b (Ma.cuts [] ws) one=[]:=rfl
  rw [e1]
  simp [bh,pwP,ns,e]
 | p::ps,ws,hw=>by
  rw [List.sum_cons] at hw
  have hl:(ws.take p).length=p:=by rw [List.length_take];omega
  obtain ⟨i1,i2⟩:=bh_rows hb one ps (ws.drop p) (by rw [List.length_drop];omega)
  have e1:lst b (Ma.cuts (p::ps) ws) one=(wg b (ws.take p) one,((b ^ p:Nat):Int))::lst b (Ma.cuts ps (ws.drop p)) one:=by
   unfold lst
   rw [Ma.cuts,List.map_cons,hl]
  have e2:pwP (lst b (Ma.cuts (p::ps) ws) one)=((b ^ (p::ps).sum:Nat):Int):=by
   rw [e1]
   show ((b ^ p:Nat):Int)*pwP _=_
   rw [i2,List.sum_cons,Nat.pow_add]
   push_cast
   rfl
  refine ⟨?_,e2⟩
  rw [e1,bh_cons,bh_lin,i1,i2,List.sum_cons,Nat.pow_add,ns_two,ns_two]
  simp only [Int.one_mul,Int.zero_mul,Int.zero_add]
  unfold wg
  rw [hl]
  simp only
  refine Prod.ext ?_ ?_
  ·simp only
   rw [← ns_right]
   refine ns_congr fun d _=>?_
   rw [← ns_mul]
   refine ns_congr fun m hm=>?_
   rw [allS_cons hb hm hw]
  ·simp only
   generalize hA:ns (allS b ps (ws.drop p) one) (b ^ ps.sum)=A
   generalize hB:ns (fun z=>allS b ps (ws.drop p) one z*(z:Int)) (b ^ ps.sum)=B
   rw [Int.mul_assoc,← ns_right,← ns_right,← ns_plus]
   refine ns_congr fun d _=>?_
   have e3:∀ m,m<b ^ ps.sum→allS b (p::ps) ws one (d*b ^ ps.sum+m)*((d*b ^ ps.sum+m:Nat):Int)=(if ws1 b d (ws.take p)=one then (d:Int) else 0)*((b ^ ps.sum:Nat):Int)*allS b ps (ws.drop p) one m+(if ws1 b d (ws.take p)=one then 1 else 0)*(allS b ps (ws.drop p) one m*(m:Int)):=fun m hm=>by
    rw [allS_cons hb hm hw]
    by_cases h1:ws1 b d (ws.take p)=one
    ·rw [if_pos h1,if_pos h1]
     push_cast
     grind
    ·rw [if_neg h1,if_neg h1]
     simp
   rw [ns_congr e3,ns_plus,ns_mul,ns_mul,hA,hB]
   grind
theorem sums_app{b:Nat}(hb:0<b):∀ (ps1 ps2:List Nat) (ws:List Int) (u z:Nat),u<b ^ ps1.sum→z<b ^ ps2.sum→ws.length=ps1.sum+ps2.sum→sumsN b (u*b ^ ps2.sum+z) (ps1++ps2) ws=sumsN b u ps1 (ws.take ps1.sum)++sumsN b z ps2 (ws.drop ps1.sum)
 | [],ps2,ws,u,z,hu,hz,hw=>by
  have h0:u=0:=by simpa using hu
  subst h0
  have e:sumsN b 0 [] (ws.take ([]:List Nat).sum)=[]:=rfl
  rw [e]
  simp
 | p::ps1,ps2,ws,u,z,hu,hz,hw=>by
  rw [List.sum_cons] at hu hw
  have hL0:0<b ^ ps1.sum:=Nat.pow_pos hb
  have em:u=u / b ^ ps1.sum*b ^ ps1.sum+u % b ^ ps1.sum:=by rw [Nat.mul_comm];exact (Nat.div_add_mod u _).symm
  have hm2:u % b ^ ps1.sum<b ^ ps1.sum:=Nat.mod_lt _ hL0
  have hd:u / b ^ ps1.sum<b ^ p:=Nat.div_lt_of_lt_mul (by rw [← Nat.pow_add,Nat.add_comm];exact hu)
  rw [em]
  generalize u / b ^ ps1.sum=d at *
  generalize u % b ^ ps1.sum=m at *
  have e1:(d*b ^ ps1.sum+m)*b ^ ps2.sum+z=d*b ^ (ps1++ps2).sum+(m*b ^ ps2.sum+z):=by
   rw [List.sum_append,Nat.pow_add,Nat.add_mul,Nat.mul_assoc]
   omega
  have hlt:m*b ^ ps2.sum+z<b ^ (ps1++ps2).sum:=by
   rw [List.sum_append,Nat.pow_add]
   have:(m+1)*b ^ ps2.sum≤b ^ ps1.sum*b ^ ps2.sum:=Nat.mul_le_mul_right _ hm2
   rw [Nat.add_mul] at this
   omega
  rw [e1,List.cons_append,sums_cons hb hlt (by rw [List.sum_append];omega),sums_app hb ps1 ps2 (ws.drop p) m z hm2 hz (by rw [List.length_drop];omega),List.sum_cons]
  rw [sums_cons hb hm2 (by rw [List.length_take];omega),List.take_take,List.drop_take,List.drop_drop,List.cons_append]
  have e2:min p (p+ps1.sum)=p:=by omega
  have e3:p+ps1.sum - p=ps1.sum:=by omega
  rw [e2,e3]
noncomputable def selB(tg:Option Int)(x:Int):Bool:=match tg with
 | none=>true
 | some t=>decide (x=t)
noncomputable def blkV(b X:Nat)(r:List Int)(c:Int)(tg:Option Int)(ps:List Nat)(ws:List Int):Int :=
 ns (fun w=>if selB tg (c+ws1 b w r)=true then (((X*b ^ (r.length+ps.sum):Nat):Int)*ns (allS b ps ws (c+ws1 b w r)) (b ^ ps.sum)+ns (fun z=>allS b ps ws (c+ws1 b w r) z*(z:Int)) (b ^ ps.sum))+(w:Int)*(((b ^ ps.sum:Nat):Int)*ns (allS b ps ws (c+ws1 b w r)) (b ^ ps.sum)) else 0) (b ^ r.length)
theorem blk_ns{b X:Nat}{r:List Int}{c:Int}{tg:Option Int}{ps:List Nat}{ws:List Int}{g:Nat→Int}(hb:0<b)
  (hg:∀ w z,w<b ^ r.length→z<b ^ ps.sum→g (X*b ^ (r.length+ps.sum)+(w*b ^ ps.sum+z))=(if selB tg (c+ws1 b w r)=true then allS b ps ws (c+ws1 b w r) z else 0)*((X*b ^ (r.length+ps.sum)+(w*b ^ ps.sum+z):Nat):Int)) :
  blkV b X r c tg ps ws=ns (fun y=>g (X*b ^ (r.length+ps.sum)+y)) (b ^ (r.length+ps.sum)):=by
 have e0:b ^ (r.length+ps.sum)=b ^ r.length*b ^ ps.sum:=Nat.pow_add _ _ _
 have e1:ns (fun y=>g (X*b ^ (r.length+ps.sum)+y)) (b ^ (r.length+ps.sum))=ns (fun w=>ns (fun z=>g (X*b ^ (r.length+ps.sum)+(w*b ^ ps.sum+z))) (b ^ ps.sum)) (b ^ r.length):=by
  rw [← ns_two (fun y=>g (X*b ^ (r.length+ps.sum)+y)),← e0]
 rw [e1]
 unfold blkV
 refine ns_congr fun w hw=>?_
 by_cases h:selB tg (c+ws1 b w r)=true
 ·rw [if_pos h]
  generalize hXB:X*b ^ (r.length+ps.sum)=XB at *
  have e2:∀ z,z<b ^ ps.sum→g (XB+(w*b ^ ps.sum+z))=((XB:Int)+(w:Int)*((b ^ ps.sum:Nat):Int))*allS b ps ws (c+ws1 b w r) z+allS b ps ws (c+ws1 b w r) z*(z:Int):=fun z hz=>by
   rw [hg w z hw hz,if_pos h]
   generalize allS b ps ws (c+ws1 b w r) z=a
   push_cast
   grind
  rw [ns_congr e2,ns_plus,ns_mul]
  generalize ns (allS b ps ws (c+ws1 b w r)) (b ^ ps.sum)=A
  generalize ns (fun z=>allS b ps ws (c+ws1 b w r) z*(z:Int)) (b ^ ps.sum)=B
  grind
 ·rw [if_neg h]
  have e2:∀ z,z<b ^ ps.sum→g (X*b ^ (r.length+ps.sum)+(w*b ^ ps.sum+z))=0:=fun z hz=>by
   rw [hg w z hw hz,if_neg h,Int.zero_mul]
  rw [ns_congr e2,ns_zero]
theorem blk_tt{b X:Nat}{r:List Int}{c m:Int}{tg:Option Int}{ps:List Nat}{ws:List Int}{h:Tri}(R:Rep h m 0 (b ^ r.length) (fun n=>ws1 b n r) fun _=>1) :
  TT h (fun k=>if selB tg (c+k)=true then ((X*b ^ (r.length+ps.sum):Nat):Int)*ns (allS b ps ws (c+k)) (b ^ ps.sum)+ns (fun z=>allS b ps ws (c+k) z*(z:Int)) (b ^ ps.sum) else 0) (fun k=>if selB tg (c+k)=true then ((b ^ ps.sum:Nat):Int)*ns (allS b ps ws (c+k)) (b ^ ps.sum) else 0)=blkV b X r c tg ps ws:=by
 rw [R.eq]
 unfold blkV
 refine ns_congr fun w _=>?_
 simp only [Nat.zero_add,Int.one_mul]
 by_cases hs:selB tg (c+ws1 b w r)=true
 ·rw [if_pos hs,if_pos hs,if_pos hs]
 ·rw [if_neg hs,if_neg hs,if_neg hs]
  simp
end Mu
namespace L2
open PySem PySem.Spec PyProof.Rows
section
variable{X:Cx}
end
theorem ps_cut{X:Cx}{st:Stmt}{t:TS}(h:PS X st t):PS X st (fun D σ H=>∃ I:St→Hp→Prop,t {D with nx:=I} σ H∧∀ σ' H',I σ' H'→D.nx σ' H'):=fun pins s σ H D I0 ⟨I,ht,hI⟩=>thn (h pins s σ H _ I0 ht) fun f s' hf=>by
 cases f with
 | next=>obtain ⟨σ',H',i,q⟩:=hf;exact ⟨σ',H',i,hI _ _ q⟩
 | brk=>exact hf
 | cont=>exact hf
 | ret u=>exact hf
theorem for_zip{K:PySem.W.Frag}{a b:Addr}{xs ys:List V}{g:TG}{tb:TS}{D:Ends}{σ:St}{H:Hp}(Pv:Nat→St→Hp→Prop)(hlen:xs.length=ys.length)(h0:Pv 0 σ H)(hl:∀ i σ H,i≤xs.length→Pv i σ H→SqL K H a xs∧SqL K H b ys)
  (hs:∀ i x y σ H t,xs[i]?=some x→ys[i]?=some y→Pv i σ H→H t=none→g (.ref t) σ (upd H t (.tup [x,y])) fun σ2 H2=>tb {D with nx:=Pv (i+1),ct:=Pv (i+1),bk:=D.nx} σ2 H2) (hd:∀ σ H,Pv xs.length σ H→D.nx σ H) :
  ∃ W:Nat→Nat→St→Hp→Prop,(∃ m,W 0 m σ H)∧∀ i m σ H,W i m σ H→
   ((Itz K a b).stop i H∧D.nx σ H)∨((Itz K a b).go i H∧∃ N:St→Hp→Prop,(∀ σ' H',N σ' H'→∃ m',m'<m∧W (i+1) m' σ' H')∧∀ x H',(Itz K a b).yld i H x H'→g x σ H' fun σ2 H2=>tb {D with nx:=N,ct:=N,bk:=D.nx} σ2 H2):=by
 refine ⟨fun i m σ H=>m=xs.length - i∧i≤xs.length∧Pv i σ H,⟨xs.length,by simp,Nat.zero_le _,h0⟩,?_⟩
 rintro i m σ H ⟨rfl,hi,p⟩
 obtain ⟨q1,q2⟩:=hl i σ H hi p
 by_cases hlt:i<xs.length
 ·have e1:xs[i]?=some xs[i]:=by simp [hlt]
  have e2:ys[i]?=some (ys[i]'(by lia)):=by simp
  refine .inr ⟨⟨xs,ys,_,_,q1,q2,e1,e2⟩,Pv (i+1),fun σ' H' p'=>⟨xs.length - (i+1),by lia,rfl,hlt,p'⟩,fun v H' y=>?_⟩
  obtain ⟨t,x,y,rfl,ht,y1,y2,rfl⟩:=y
  exact hs i x y σ H t (y1 xs q1) (y2 ys q2) p ht
 ·have e:i=xs.length:=by lia
  subst e
  exact .inl ⟨⟨xs,ys,q1,q2,.inl (Nat.le_refl _)⟩,hd σ H p⟩
end L2
namespace L2
open PySem PySem.Spec PyProof.Rows
section
variable{prog:Program}{w:World}{A:Around}{E:Value→Shared→Prop}{s:Shared}
theorem draw_listI{it t:Addr}{items:Array Value}(hne:t≠it):∀ (n i:Nat) (s:Shared) (Q:List Value→Shared→Prop),s.heap.IsListIter it t i→s.heap.IsList t items→i+n≤items.size→
  (∀ h',h'.IsListIter it t (i+n)→Heap.SameBut it s.heap h'→Q ((items.toList.drop i).take n) {s with heap:=h'})→wpAny (model prog w) A (draw (.ref it) n) Q E s
 | 0,i,s,Q,hit,_,_,hQ=>by
  show wpAny _ _ (pure []) Q E s
  exact wpAny_pure (by simpa using hQ s.heap hit (Heap.SameBut.refl ..))
 | n+1,i,s,Q,hit,ht,hle,hQ=>by
  have hlt:i<items.size:=by lia
  show wpAny _ _ (pyNext (.ref it)>>=_) Q E s
  refine wpAny_bind (wpAny_pyNext_list_item hit ht (x:=items[i]) (by simp [hlt]) fun h₁ hit₁ hs₁=>?_)
  refine wpAny_bind (wpAny_holding (draw_listI hne n (i+1) _ _ hit₁ (ht.extBut hs₁.extBut hne) (by lia) fun h₂ hit₂ hs₂=>wpAny_pure ?_))
  have hd:items.toList.drop i=items[i]::items.toList.drop (i+1):=by simp [List.drop_eq_getElem_cons,hlt]
  have:=hQ h₂ (by rw [show i+(n+1)=i+1+n by lia];exact hit₂) (hs₁.trans hs₂)
  rw [hd,List.take_succ_cons] at this
  exact this
theorem assign_Tuple_list{env:Env}{elts:List Expr}{x1}{pos:Pos}{t:Addr}{items:Array Value}{Q:Unit→Shared→Prop}(hh:A.handled=none)(ht:s.heap.IsList t items)
  (hn:(assignEach elts env).length=items.size) (hstar:(assignEach elts env).findIdx? (·.1)=none)
  (h:∀ h',Heap.ExtBut s.heap.objs.size s.heap h'→wpAny (model prog w) A (assignInOrder ((assignEach elts env).map (·.2)) items.toList) Q E {s with heap:=h'}) :
  wpAny (model prog w) A (assign (.Tuple elts x1 pos) env (.ref t)) Q E s:=by
 have hlt:t≠s.heap.objs.size:=by obtain ⟨o,ho,_⟩:=ht;exact Nat.ne_of_lt (Heap.lt_size ho)
 rw [assign_Tuple]
 refine wpAny_bind (wpAny_standAt ?_)
 unfold unpack
 rw [hn,hstar]
 refine wpAny_bind (wpAny_holding ?_)
 unfold unpackItems
 refine wpAny_bind ?_
 unfold notIterableAtAll
 refine wpAny_bind (wpAny_specialOf ht.typeIs PySem.F.slot_list_iter.lookup ?_)
 refine wpAny_pure ?_
 simp only [Bool.false_eq_true,if_false]
 refine wpAny_bind (wpAny_holding (wpAny_pyIter_list ht ?_))
 refine wpAny_bind (wpAny_holding (draw_listI hlt items.size 0 _ _ ⟨_,Heap.get?_push_size _ rfl,rfl,rfl⟩ (ht.push _) (by lia) fun h₁ hit₁ hs₁=>?_))
 have hall:List.take items.size (List.drop 0 items.toList)=items.toList:=by
  rw [List.drop_zero];exact List.take_of_length_le (by simp)
 rw [hall,if_neg (by simp)]
 have ht₁:h₁.IsList t items:=(ht.push _).extBut hs₁.extBut hlt
 refine wpAny_bind (wpAny_holding (wpAny_pyNext_list_end hh hit₁ ht₁ (by simp) fun h₂ he₂=>?_))
 simp only [Option.isSome_none,Bool.false_eq_true,if_false]
 exact wpAny_pure (h h₂ fun b o hb e=>he₂ b o hb (hs₁.extBut b o hb (Heap.get?_push_of_some _ e)))
end
section
variable{X:Cx}{pos:Pos}
noncomputable def gLst(K:PySem.W.Frag)(n:Nat)(t:TGs):TG:=fun v σ H Q=>∃ a xs,v=.ref a∧SqL K H a xs∧xs.length=n∧t xs σ H Q
theorem pg_lst{es:List Expr}{k:Nat}{t:TGs}{n:Nat}(hc:X.calm=true)(h:PGs X es t)
  (hn:(assignEach es X.env).length=n:=by rfl) (hst:(assignEach es X.env).findIdx? (·.1)=none:=by rfl):PG X (.Tuple es k pos) (gLst X.K n t):=by
 intro pins s σ H v u Q I r hw
 obtain ⟨a,xs,e1,hq,hl,hw⟩:=hw
 subst e1
 cases r
 obtain ⟨its,rv,pl,hz⟩:=I.list hq
 refine assign_Tuple_list (I.ok.hd hc) pl.isList (by simp [hn,← hl,rv.length]) hst fun h' hx=>?_
 have I1:Inv X pins σ H {s with heap:=h'}:=I.kept (t':=s.toks) fun b o e=>hx b o (Nat.ne_of_lt (Heap.lt_size e)) e
 exact h pins _ σ H xs _ Q I1 (by simpa using rv) hw
end
end L2
namespace L2
open PySem PySem.Spec PyProof.Rows
theorem range_rev_take{al:Type}(xs:List al):∀ n,n≤xs.length→(((List.range n).map fun (k:Nat)=>xs.length - 1 - k).filterMap fun i=>xs[i]?)=xs.reverse.take n
 | 0,_=>by simp
 | n+1,h=>by
  rw [List.range_succ,List.map_append,List.filterMap_append,range_rev_take xs n (by omega),List.take_add_one,List.getElem?_reverse (by omega)]
  have e:xs[xs.length - 1 - n]?=some (xs[xs.length - 1 - n]'(by omega)):=by simp
  simp [e]
theorem range_rev{al:Type}(xs:List al):(((List.range xs.length).map fun (k:Nat)=>xs.length - 1 - k).filterMap fun i=>xs[i]?)=xs.reverse:=by
 rw [range_rev_take xs xs.length (Nat.le_refl _),List.take_of_length_le (by simp)]
theorem slicePick_rev(its:List Value):slicePick its.toArray none none (some (-1))=its.reverse.toArray:=by
 unfold slicePick
 rw [← range_rev its]
 congr 1
 have e:sliceRange (sliceBounds none none (some (-1)) its.toArray.size).1 (sliceBounds none none (some (-1)) its.toArray.size).2.1 (sliceBounds none none (some (-1)) its.toArray.size).2.2=(List.range its.length).map fun (k:Nat)=>its.length - 1 - k:=by
  have e1:sliceBounds none none (some (-1)) its.toArray.size=((its.length:Int) - 1,-1,-1):=by simp [sliceBounds]
  rw [e1]
  unfold sliceRange
  have e2:(if (-1:Int)>0 then (if ((its.length:Int) - 1) < -1 then (-1 - ((its.length:Int) - 1) + -1 - 1) / -1 else 0) else (if ((its.length:Int) - 1) > -1 then (((its.length:Int) - 1) - -1 - -1 - 1) / (-(-1)) else 0)).toNat=its.length:=by
   rw [if_neg (by decide)]
   split
   ·rw [show (-(-1):Int)=1 by decide,Int.ediv_one];omega
   ·omega
  show List.map _ (List.range (Int.toNat _))=_
  rw [e2]
  refine List.map_congr_left fun k hk=>?_
  have:=List.mem_range.mp hk
  show ((its.length:Int) - 1 + -1*(k:Int)).toNat=_
  omega
 rw [e]
 simp only [List.getElem?_toArray]
section
variable{X:Cx}{e st:Expr}{te ts:TE}{pos p2:Pos}{tg:Expr}
noncomputable def tSRev(K:PySem.W.Frag)(te ts:TE):TE:=fun σ H Q=>te σ H fun x H1=>ts σ H1 fun y H2=>y=.int (-1)∧∃ a xs,x=.ref a∧SqL K H2 a xs∧∀ p,H2 p=none→Q (.ref p) (upd H2 p (.lst xs.reverse))
theorem Vals.rev{xs:List V}{its:List Value}(r:Vals xs its):Vals xs.reverse its.reverse:=by
 induction r with
 | nil=>exact .nil
 | cons h _ ih=>rw [List.reverse_cons,List.reverse_cons];exact Paired.snoc ih h
theorem pe_srev(he:PE X e te)(hs:PE X st ts):PE X (.Subscript e (.Slice none none (some st) p2) pos) (tSRev X.K te ts):=by
 intro pins s σ H Q I h
 refine Subscript_ (thn (he pins s σ H _ I h) fun v s1 ⟨x,H1,I1,r1,q1⟩=>?_)
 refine wpAny_Slice ?_
 rw [evalPart_none]
 refine wpAny_pure (wpAny_pure ?_)
 rw [evalPart_some]
 refine thn (hs pins s1 σ H1 _ I1 q1) fun vs s3 ⟨y,H3,I3,r3,q3⟩=>?_
 obtain ⟨rfl,a,xs,rfl,hx,q⟩:=q3
 obtain ⟨t,rfl⟩:=r3
 cases r1
 have I4:Inv X pins σ H3 {s3 with heap:=s3.heap.push {cls:=.type "slice",data:=.fields #[.none,.none,.int (-1) t]}}:=I3.kept (t':=s3.toks) fun b ob q=>Heap.get?_push_of_some _ q
 obtain ⟨its,r,ht,hz⟩:=I4.list hx
 have hlen:=r.length
 have hg:wpAny (model X.prog X.w) X.A (getItem (.ref a) (.ref s3.heap.objs.size)) (EP X pins σ Q) X.xe {s3 with heap:=s3.heap.push {cls:=.type "slice",data:=.fields #[.none,.none,.int (-1) t]}}:=by
  refine wpAny_getItem_list_slice ht.isList (Heap.IsSliceOf.new ..) .none .none (.int (-1) t) (by simp) ?_ (by rw [List.size_toArray] <;> omega)
  rw [slicePick_rev]
  refine ⟨.ref _,_,I4.laid (t':=s3.toks) (o:=.lst xs.reverse) (fun b ob q=>Heap.get?_push_of_some _ q) (Nat.le_refl _) ?_,rfl,q _ (I4.hok.fresh (Nat.le_refl _))⟩
  exact ⟨by rw [List.length_reverse];exact hz,_,0,Vals.rev r,Heap.get?_push_size _ rfl⟩
 show wpAny (model X.prog X.w) X.A (subscriptTail e (.Slice none none (some st) p2) (.ref a) (.ref s3.heap.objs.size)) (EP X pins σ Q) X.xe {s3 with heap:=s3.heap.push {cls:=.type "slice",data:=.fields #[.none,.none,.int (-1) t]}}
 exact tail_any (ops:=[.ref a,.ref s3.heap.objs.size]) ht.isList.typeIs slot_list_getitem.lookup hg (by with_unfolding_all rfl)
end
end L2
namespace Hv
open PySem L2
noncomputable abbrev PL(H:Hp)(kvs:List (Key×V))(h:Mu.Tri):Prop:=Paired (fun kv p=>kv.1=Sum.inl p.1∧∃ t,kv.2=V.ref t∧H t=some (.lst [.int p.2.1,.int p.2.2])) kvs h
theorem PL.lsts{H H':Hp}{kvs:List (Key×V)}{f:Mu.Tri}(h:PL H kvs f)(k:∀ t x y,H t=some (.lst [.int x,.int y])→H' t=some (.lst [.int x,.int y])):PL H' kvs f:=L2.Paired.mapP h fun _ _ ⟨e,t,e2,e3⟩=>⟨e,t,e2,k _ _ _ e3⟩
theorem PL.keep{H H':Hp}{kvs:List (Key×V)}{f:Mu.Tri}(h:PL H kvs f)(s:Same H H'):PL H' kvs f:=PL.lsts h fun _ _ _ e=>s _ _ e
theorem PL.kp{H H':Hp}{d:Addr}{o:HO}{kvs:List (Key×V)}{f:Mu.Tri}(h:PL H kvs f)(k:Kp [d] H H')(hd:H d=some o)(ho:∀ x y,o≠.lst [.int x,.int y]):PL H' kvs f:=PL.lsts h fun t x y e=>k _ _ e fun z=>by
 have z':t=d:=by simpa using z
 rw [z',hd] at e
 exact ho _ _ (Option.some.inj e)
theorem PL.len{H:Hp}:∀ {kvs:List (Key×V)} {f:Mu.Tri},PL H kvs f→kvs.length=f.length
 | _,_,.nil=>rfl
 | _,_,.cons _ t=>congrArg (·+1) (PL.len t)
theorem PL.val{H:Hp}(k:Int):∀ {kvs:List (Key×V)} {f:Mu.Tri},PL H kvs f→(valV kvs (Sum.inl k)=none∧Mu.lookT f k=none)∨∃ n t,Mu.lookT f k=some n∧valV kvs (Sum.inl k)=some (.ref t)∧H t=some (.lst [.int n.1,.int n.2])
 | _,_,.nil=>.inl ⟨rfl,rfl⟩
 | kv::kvs,p::f,.cons ⟨e,t,e2,e3⟩ r=>by
  by_cases h:p.1=k
  ·refine .inr ⟨p.2,t,?_,?_,e3⟩
   ·simp [Mu.lookT,List.find?_cons,h]
   ·rw [valV_pos (by rw [e,h]),e2]
  ·have h1:valV (kv::kvs) (Sum.inl k)=valV kvs (Sum.inl k):=valV_neg (by rw [e];exact fun z=>h (Sum.inl.inj z))
   have h2:Mu.lookT (p::f) k=Mu.lookT f k:=by simp [Mu.lookT,List.find?_cons,h]
   rw [h1,h2]
   exact PL.val k r
theorem PL.any{H:Hp}(k:Int):∀ {kvs:List (Key×V)} {f:Mu.Tri},PL H kvs f→(kvs.any fun kv=>decide (kv.1=Sum.inl k))=f.any fun p=>decide (p.1=k)
 | _,_,.nil=>rfl
 | kv::kvs,p::f,.cons ⟨e,_⟩ r=>by
  rw [List.any_cons,List.any_cons,PL.any k r]
  congr 1
  rw [e]
  by_cases h:p.1=k
  ·simp [h]
  ·have h':¬ (Sum.inl p.1:Key)=Sum.inl k:=fun z=>h (Sum.inl.inj z)
   simp [h,h']
theorem PL.repl{H:Hp}{k:Int}{n:Int×Int}{t:Addr}(ht:H t=some (.lst [.int n.1,.int n.2])):∀ {kvs:List (Key×V)} {f:Mu.Tri},PL H kvs f→PL H (kvs.map fun kv=>if kv.1=Sum.inl k then (kv.1,V.ref t) else kv) (f.map fun p=>if p.1=k then (p.1,n) else p)
 | _,_,.nil=>.nil
 | kv::kvs,p::f,.cons ⟨e,u,e2,e3⟩ r=>by
  rw [List.map_cons,List.map_cons]
  refine .cons ?_ (PL.repl ht r)
  by_cases h:p.1=k
  ·rw [if_pos h,if_pos (by rw [e,h])]
   exact ⟨e,t,rfl,ht⟩
  ·rw [if_neg h,if_neg (by rw [e];exact fun z=>h (Sum.inl.inj z))]
   exact ⟨e,u,e2,e3⟩
theorem PL.put{H:Hp}{k:Int}{n:Int×Int}{t:Addr}{kvs:List (Key×V)}{f:Mu.Tri}(h:PL H kvs f)(ht:H t=some (.lst [.int n.1,.int n.2])):PL H (putK kvs (Sum.inl k) (.ref t)) (Mu.putT f k n):=by
 unfold putK Mu.putT
 rw [PL.any k h]
 split
 ·exact PL.repl ht h
 ·exact Paired.snoc h ⟨rfl,t,rfl,ht⟩
theorem pe_LL{X:Cx}{j2 j3}{p2 p3 p4:Pos}:PE X (.List [.Constant (.int 1) j2 p2,.Constant (.int 0) j3 p3] p4) (tLst (tCons (tC (.int 1)) (tCons (tC (.int 0)) tNil))):=pe_lst (pa_cons pe_int (pa_cons pe_int pa_nil))
noncomputable abbrev tStartL:TE:=tLst (tCons (tDisp [(tC (.int 0),tLst (tCons (tC (.int 1)) (tCons (tC (.int 0)) tNil)))]) tNil)
theorem pe_DDL{X:Cx}{j1 j2 j3}{p1 p2 p3 p4 p5:Pos}:PE X (.Dict [some (.Constant (.int 0) j1 p1)] [.List [.Constant (.int 1) j2 p2,.Constant (.int 0) j3 p3] p4] p5) (tDisp [(tC (.int 0),tLst (tCons (tC (.int 1)) (tCons (tC (.int 0)) tNil)))]) :=
 @pe_D1 X (.Constant (.int 0) j1 p1) (.List [.Constant (.int 1) j2 p2,.Constant (.int 0) j3 p3] p4) p5 (tC (.int 0)) (tLst (tCons (tC (.int 1)) (tCons (tC (.int 0)) tNil))) pe_K pe_LL
theorem pe_startL{X:Cx}{j1 j2 j3}{p1 p2 p3 p4 p5 p6:Pos}:PE X (.List [.Dict [some (.Constant (.int 0) j1 p1)] [.List [.Constant (.int 1) j2 p2,.Constant (.int 0) j3 p3] p4] p5] p6) tStartL :=
 @pe_B X [some (.Constant (.int 0) j1 p1)] [.List [.Constant (.int 1) j2 p2,.Constant (.int 0) j3 p3] p4] p5 p6 (tDisp [(tC (.int 0),tLst (tCons (tC (.int 1)) (tCons (tC (.int 0)) tNil)))]) pe_DDL
@[irreducible] noncomputable def e0L:Expr:=match (defBody sLawTails).getD 0 (.Pass ⟨0,0,0,0⟩) with
 | .Assign _ e _=>e
 | _=>.Constant .none 0 ⟨0,0,0,0⟩
theorem e0L_eq:∃ j1 j2 j3 p1 p2 p3 p4 p5 p6,e0L=.List [.Dict [some (.Constant (.int 0) j1 p1)] [.List [.Constant (.int 1) j2 p2,.Constant (.int 0) j3 p3] p4] p5] p6:=by
 unfold e0L
 exact ⟨_,_,_,_,_,_,_,_,_,rfl⟩
theorem pe_e0L{X:Cx}:PE X e0L tStartL:=by
 obtain ⟨j1,j2,j3,p1,p2,p3,p4,p5,p6,h⟩:=e0L_eq
 exact @Eq.mpr _ _ (congrArg (fun e=>PE X e tStartL) h) (@pe_startL X j1 j2 j3 p1 p2 p3 p4 p5 p6)
theorem sw_e0L(x:Str)(pos':Pos)(l:Nat)(env:Env):swapsWith e0L (some (.Name x pos')) l env=pure false:=by
 obtain ⟨j1,j2,j3,p1,p2,p3,p4,p5,p6,h⟩:=e0L_eq
 rw [h]
 rfl
noncomputable def b0L:List Stmt:=match (defBody sLawTails).getD 0 (.Pass ⟨0,0,0,0⟩) with
 | .Assign ts _ p=>(defBody sLawTails).set 0 (.Assign ts e0L p)
 | _=>[]
theorem b0L_eq:defBody sLawTails=b0L:=by
 unfold b0L e0L
 rfl
noncomputable def TailsL(H:Hp)(b:Nat)(ts:List Addr)(ws:List Int):Prop:=∀ (i:Nat) (t:Addr),ts[i]?=some t→∃ kvs h,H t=some (.dK kvs)∧PL H kvs h∧RepA h (135*(i:Int)) b (ws.drop (ws.length - i))
theorem TailsL.keep{H H':Hp}{b:Nat}{ts:List Addr}{ws:List Int}(h:TailsL H b ts ws)(s:Same H H'):TailsL H' b ts ws:=fun i t e=>let ⟨kvs,g,a1,a2,a3⟩:=h i t e;⟨kvs,g,s _ _ a1,a2.keep s,a3⟩
noncomputable def spTailsL:Sp:=fun vs H Q _=>∃ (b:Nat) (c:Addr) (ws:List Int),vs=[.int b,.ref c]∧H c=some (.lst (ws.map V.int))∧b≤16∧(∀ x∈ws,-9≤x∧x≤9)∧ws.length≤6∧
 ∀ (p:Addr) (ts:List Addr) (H':Hp),H p=none→Same H H'→H' p=some (.lst (ts.map V.ref))→ts.length=ws.length+1→(∀ t∈ts,H t=none)→TailsL H' b ts ws→Q (.ref p) H'
theorem at_lastR{ts:List Addr}{i:Nat}{t:Addr}(hl:ts.length=i+1)(h:ts[i]?=some t):atI (ts.map V.ref) (-1)=some (.ref t):=by
 have e:ixN (ts.map V.ref).length (-1)=some i:=by
  rw [List.length_map,hl]
  unfold ixN
  rw [if_neg (by decide),if_pos (by omega)]
  congr 1
  omega
 unfold atI
 rw [e]
 show (ts.map V.ref)[i]?=_
 rw [List.getElem?_map,h]
 rfl
section
variable{P:Program}{w:World}{K:PySem.W.Frag}{mg:Str→Option Value}{base:Heap}
noncomputable abbrev nsTL:List Str:=["base","weights","found","power","weight","more","one","many","total","figure","here","numbers"]
theorem scTailsL:FnScope nsTL ["base","weights"] (defScope sLawTails):=⟨rfl,rfl,rfl,by decide +kernel,rfl,by decide +kernel,by decide +kernel⟩
theorem ok_tailsL{f:Addr}{fd:FuncData}(F:Fun K "_law_tails" "_law_tails" sLawTails f fd)(T:Txt mg):FnOk P w K mg base CX0 1 f fd ["base","weights"] spTailsL:=by
 refine F.ok scTailsL (fun vs H Q E h=>?_) (fun cdv A outer s H vs Q E hr h=>?_)
 ·obtain ⟨b,c,ws,rfl,_⟩:=h;rfl
 ·obtain ⟨b,c,ws,rfl,hc,hb,hw,hl6,k⟩:=h
  have nd:=scTailsL.nd
  have hu:=hu_of hr
  rw [b0L_eq]
  refine ⟨_,pss_cons (ps_set (i:=2) nd rfl (Or.inl rfl) pe_e0L (sw_e0L _ _ _ _))
   (pss_cons (ps_set (i:=3) nd rfl (Or.inl rfl) pe_int)
   (pss_cons (ps_for PassesOwn.never rfl (pi_list (pe_srev (pv 1) (pe_un un_neg pe_int))) (pg_name (i:=4) nd rfl (Or.inl rfl))
    (pss_cons (ps_set (i:=5) nd rfl (Or.inl rfl) pe_dnewK)
    (pss_cons (ps_for PassesOwn.never rfl (pi_items (ixl (pv 2) (pe_un un_neg pe_int))) (pg_tup rfl (pgs_cons (pg_name (i:=6) nd rfl (Or.inl rfl)) (pgs_cons (pg_lst rfl (pgs_cons (pg_name (i:=7) nd rfl (Or.inl rfl)) (pgs_cons (pg_name (i:=8) nd rfl (Or.inl rfl)) pgs_nil))) pgs_nil)))
     (pss_one (ps_for PassesOwn.never rfl (pi_range1 (by rfl) T.range (pa_cons (pv 0) pa_nil)) (pg_name (i:=9) nd rfl (Or.inl rfl))
      (pss_cons (ps_set (i:=10) nd rfl (Or.inl rfl) (pe_dget2 hu (pv 5) (pe_op op_add (pv 6) (pe_op op_mul (pv 9) (pv 4))) (pe_lst (pa_cons pe_int (pa_cons pe_int pa_nil))) ⟨rfl,rfl,rfl,rfl⟩))
      (pss_cons (ps_set (i:=11) nd rfl (Or.inl rfl) (pe_op op_add (pe_op op_add (ixl (pv 10) pe_int) (pv 8)) (pe_op op_mul (pe_op op_mul (pv 9) (pv 3)) (pv 7))))
      (pss_one (ps_dput hu (pv 5) (pe_op op_add (pv 6) (pe_op op_mul (pv 9) (pv 4))) (pe_lst (pa_cons (pe_op op_add (ixl (pv 10) pe_int) (pv 7)) (pa_cons (pv 11) pa_nil))) rfl)))))))
    (pss_thaw (pss_cons (ps_expr (pe_bm PySem.F.plainAttrs_list PySem.F.slot_list_append PySem.F.type_list_append mt_append (pv 2) (pa_cons (pv 5) pa_nil)))
    (pss_one (ps_set (i:=3) nd rfl (Or.inl rfl) (pe_op op_mul (pv 3) (pv 0)))))))))
   (pss_one (ps_ret (pv 2))))),?_⟩
  refine fun d0 hd0=>?_
  refine ⟨sz (by simp),fun t0 ht0=>?_⟩
  have nt:d0≠t0:=ne_of_none upd_same ht0
  have u0:(upd (upd H d0 (.dK [])) t0 (.lst [.int 1,.int 0])) d0=some (.dK []):=by rw [upd_ne nt];exact upd_same
  have v0:(upd (upd H d0 (.dK [])) t0 (.lst [.int 1,.int 0])) t0=some (.lst [.int 1,.int 0]):=upd_same
  have s2:Same H (upd (upd H d0 (.dK [])) t0 (.lst [.int 1,.int 0])):=(same_upd hd0).trans (same_upd ht0)
  generalize upd (upd H d0 (.dK [])) t0 (.lst [.int 1,.int 0])=H2 at u0 v0 s2⊢
  refine ⟨u0,[(Sum.inl 0,.ref t0)],rfl,Nat.succ_le_succ (Nat.zero_le _),?_⟩
  have s3:Same H (upd H2 d0 (.dK (mergeK [] [(Sum.inl 0,.ref t0)]))):=same_upd2 s2 hd0
  have u3:(upd H2 d0 (.dK (mergeK [] [(Sum.inl 0,.ref t0)]))) d0=some (.dK [(Sum.inl 0,.ref t0)]):=upd_same
  have v3:(upd H2 d0 (.dK (mergeK [] [(Sum.inl 0,.ref t0)]))) t0=some (.lst [.int 1,.int 0]):=by rw [upd_ne nt.symm];exact v0
  generalize upd H2 d0 (.dK (mergeK [] [(Sum.inl 0,.ref t0)]))=H3 at s3 u3 v3⊢
  refine ⟨sz (by simp),fun l hl=>?_⟩
  have s4:Same H3 (upd H3 l (.lst [.ref d0])):=same_upd hl
  have hlH:H l=none:=s3.free hl
  have u4:(upd H3 l (.lst [.ref d0])) l=some (.lst ([d0].map V.ref)):=upd_same
  have S4:=s3.trans s4
  have d4:=s4 _ _ u3
  have t4:=s4 _ _ v3
  generalize upd H3 l (.lst [.ref d0])=H4 at s4 u4 S4 d4 t4⊢
  refine ⟨_,rfl,_,rfl,rfl,c,_,rfl,SqL.of (S4 _ _ hc),fun rv hrv=>?_⟩
  have s5:=same_upd (o:=.lst (ws.map V.int).reverse) hrv
  have u5:(upd H4 rv (.lst (ws.map V.int).reverse)) rv=_:=upd_same
  have nrl:rv≠l:=fun z=>by rw [z,u4] at hrv;cases hrv
  have l5:=s5 _ _ u4
  have S5:=S4.trans s5
  have T5:TailsL (upd H4 rv (.lst (ws.map V.int).reverse)) b [d0] ws:=fun i t e=>by
   have hi:i=0:=by
    have:=(List.getElem?_eq_some_iff.mp e).1
    simp at this
    exact this
   subst hi
   have et:d0=t:=by simpa using e
   subst et
   refine ⟨_,[(0,1,0)],s5 _ _ d4,.cons ⟨rfl,t0,rfl,s5 _ _ t4⟩ .nil,?_⟩
   rw [Nat.sub_zero,List.drop_length]
   exact Mu.Rep.start (by simp)
  generalize upd H4 rv (.lst (ws.map V.int).reverse)=H5 at s5 u5 l5 S5 T5⊢
  refine ⟨rv,rfl,⟨_,SqL.of u5⟩,for_list (K:=K) (a:=rv) (xs:=(ws.map V.int).reverse) (fun i σ H'=>∃ (ts:List Addr) (v4 v5 v6 v7 v8 v9 v10 v11:Option V),σ=[some (.int b),some (.ref c),some (.ref l),some (.int ((b ^ i:Nat):Int)),v4,v5,v6,v7,v8,v9,v10,v11]∧Kp [l] H5 H'∧H' l=some (.lst (ts.map V.ref))∧ts.length=i+1∧(∀ t∈ts,H t=none)∧TailsL H' b ts ws)
   ⟨[d0],none,none,none,none,none,none,none,none,by rw [Nat.pow_zero];rfl,Kp.refl,l5,rfl,fun t ht=>by rw [List.mem_singleton.mp ht];exact hd0,T5⟩ (fun i σ H' _ h=>by obtain ⟨_,_,_,_,_,_,_,_,_,_,z,_⟩:=h;exact SqL.of (z _ _ u5 (by simpa using nrl))) ?_ ?_⟩
  ·rintro i x σ H6 hx ⟨ts,v4,v5,v6,v7,v8,v9,v10,v11,rfl,kp6,l6,htl,hnw,T6⟩
   obtain ⟨wt,hwt,rfl⟩:∃ wt,ws.reverse[i]?=some wt∧x=.int wt:=by
    rw [← List.map_reverse,List.getElem?_map] at hx
    cases e:ws.reverse[i]? with
    | none=>rw [e] at hx;cases hx
    | some d=>rw [e] at hx;exact ⟨d,rfl,(Option.some.inj hx).symm⟩
   have hil:i<ws.length:=by have:=(List.getElem?_eq_some_iff.mp hwt).1;simpa using this
   have edr:=rev_at hwt
   have hwb:=hw wt (by have:=List.mem_of_getElem? hwt;simpa using this)
   obtain ⟨t,ht⟩:∃ t,ts[i]?=some t:=⟨_,List.getElem?_eq_getElem (by omega)⟩
   obtain ⟨kvs,h,td,pd,R⟩:=T6 i t ht
   obtain ⟨r,hrr⟩:∃ r,r=ws.drop (ws.length - i):=⟨_,rfl⟩
   rw [← hrr] at R edr
   have hrl:r.length=i:=by rw [hrr,List.length_drop];omega
   have hr6:r.length≤6:=by omega
   have hpw:b ^ r.length≤16 ^ 6:=Nat.le_trans (Nat.pow_le_pow_left hb _) (Nat.pow_le_pow_right (by decide) hr6)
   have h16:(16:Nat) ^ 6=16777216:=by decide
   have hst:(0:Int)≤((b ^ r.length:Nat):Int)∧((b ^ r.length:Nat):Int)≤16777216:=by omega
   rw [← hrl]
   generalize est:((b ^ r.length:Nat):Int)=st at hst⊢
   intro mo hmo
   have s7:=same_upd (o:=.dK []) hmo
   have ntm:t≠mo:=ne_of_none td hmo
   have l7:=s7 _ _ l6
   have nlm:l≠mo:=ne_of_none l6 hmo
   refine ⟨_,rfl,_,rfl,r_ixl l7 (at_lastR htl ht) ⟨t,kvs,rfl,s7 _ _ td,fun o=>for_items (fun m σ H8=>∃ v6 v7 v8 v9 v10 v11,σ=[some (.int b),some (.ref c),some (.ref l),some (.int st),some (.int wt),some (.ref mo),v6,v7,v8,v9,v10,v11]∧H8 t=some (.frz o (.dK kvs))∧Kp [t] H6 H8∧∃ km hm,H8 mo=some (.dK km)∧PL H8 km hm∧Mu.OkT hm (135*(i:Int)+135)∧∀ A B,Mu.TT hm A B=Mu.TT (h.take m) (fA b wt st A B b) (fB wt B b))
    ⟨v6,v7,v8,v9,v10,v11,rfl,upd_same,kp_upd (kp_upd Kp.refl (.inr hmo)) (.inl (by simp)),[],[],?_,.nil,Mu.OkT.nil,fun A B=>rfl⟩ (fun m σ H8 _ h=>by obtain ⟨_,_,_,_,_,_,_,z,_⟩:=h;exact z) ?_ ?_⟩⟩
   ·rw [upd_ne ntm.symm,upd_same]
   ·rintro m kk v σ H8 tt hk ⟨v6,v7,v8,v9,v10,v11,rfl,ft,kp8,km,hm,mo8,pm,ok0,e0⟩ htt
    obtain ⟨p,hp,hkk,lt,hv,hlt⟩:=Paired.at pd hk
    have hkk':kk=Sum.inl p.1:=hkk
    have hv':v=.ref lt:=hv
    subst hkk' hv'
    have pm':=List.mem_of_getElem? hp
    have pb:=R.ok.bd p.1 (List.mem_map.mpr ⟨p,pm',rfl⟩)
    have pe:=RepA.ent R hb hr6 pm'
    have nlt:lt≠t:=fun z=>by rw [z,td] at hlt;cases hlt
    have lt8:H8 lt=some (.lst [.int p.2.1,.int p.2.2]):=kp8 _ _ hlt (by simpa using nlt)
    have s9:=same_upd (o:=.tup [.int p.1,.ref lt]) htt
    have u9:(upd H8 tt (.tup [kV (Sum.inl p.1),.ref lt])) tt=_:=upd_same
    refine ⟨tt,_,rfl,SqT.of u9,rfl,_,_,rfl,_,_,rfl,lt,_,rfl,SqL.of (s9 _ _ lt8),rfl,_,_,rfl,_,_,rfl,rfl,rfl,?_⟩
    have ft9:=s9 _ _ ft
    have kp9:Kp [t] H6 (upd H8 tt (.tup [.int p.1,.ref lt])):=fun y ob e n=>s9 _ _ (kp8 y ob e n)
    have mo9:=s9 _ _ mo8
    have pm9:=pm.keep s9
    have eu:upd H8 tt (.tup [kV (Sum.inl p.1),.ref lt])=upd H8 tt (.tup [.int p.1,.ref lt]):=rfl
    rw [eu]
    generalize upd H8 tt (.tup [.int p.1,.ref lt])=H9 at ft9 kp9 mo9 pm9⊢
    refine ⟨_,rfl,_,rfl,by omega,by omega,for_range (n:=(b:Int).toNat) (fun d σ H10=>∃ v9 v10 v11,σ=[some (.int b),some (.ref c),some (.ref l),some (.int st),some (.int wt),some (.ref mo),some (.int p.1),some (.int p.2.1),some (.int p.2.2),v9,v10,v11]∧H10 t=some (.frz o (.dK kvs))∧Kp [t] H6 H10∧∃ km hm,H10 mo=some (.dK km)∧PL H10 km hm∧Mu.OkT hm (135*(i:Int)+135)∧∀ A B,Mu.TT hm A B=Mu.TT (h.take m) (fA b wt st A B b) (fB wt B b)+(p.2.1*fA b wt st A B d p.1+p.2.2*fB wt B d p.1))
     ⟨v9,v10,v11,rfl,ft9,kp9,km,hm,mo9,pm9,ok0,fun A B=>by rw [e0];simp [fA,fB,Mg.ns]⟩ ?_ ?_⟩
    ·rintro d σ H10 hd ⟨v9,v10,v11,rfl,ft10,kp10,km3,hm3,mo10,pm10,ok3,e3⟩
     have hd':d<b:=by omega
     have z0:(0:Int)+(d:Int)=(d:Int):=Int.zero_add _
     rw [z0]
     have hlen:=Mu.OkT.len (m:=135*i+135) (by push_cast;exact ok3)
     have hds:(d:Int)*st≤15*16777216:=Int.mul_le_mul (by omega) hst.2 hst.1 (by decide)
     have hds0:0≤(d:Int)*st:=Int.mul_nonneg (by omega) hst.1
     refine ⟨_,rfl,mo,rfl,.inl ⟨_,.inl mo10⟩,_,rfl,_,rfl,_,rfl,_,_,rfl,rfl,.inr ⟨by omega,by omega⟩,_,_,rfl,rfl,sz (by simp),fun z1 hz1=>?_⟩
     have s11:=same_upd (o:=.lst [.int 0,.int 0]) hz1
     have u11:(upd H10 z1 (.lst [.int 0,.int 0])) z1=some (.lst [.int 0,.int 0]):=upd_same
     generalize upd H10 z1 (.lst [.int 0,.int 0])=H11 at s11 u11⊢
     have mo11:=s11 _ _ mo10
     have pm11:=pm10.keep s11
     obtain ⟨tk,htk⟩:∃ tk,tk=p.1+(d:Int)*wt:=⟨_,rfl⟩
     have key:∃ x,(valV km3 (Sum.inl tk)).getD (.ref z1)=.ref x∧H11 x=some (.lst [.int (Mu.gT hm3 tk).1,.int (Mu.gT hm3 tk).2]):=by
      unfold Mu.gT
      rcases PL.val tk pm11 with ⟨e1,e2⟩ | ⟨m,x,e1,e2,e3⟩
      ·rw [e1,e2];exact ⟨z1,rfl,u11⟩
      ·rw [e1,e2];exact ⟨x,rfl,e3⟩
     obtain ⟨x,ex,hx⟩:=key
     refine ⟨valV km3 (Sum.inl tk),.inl ⟨km3,Sum.inl tk,.inl mo11,by rw [htk];rfl,rfl⟩,?_⟩
     rw [ex]
     refine ⟨_,rfl,x,_,1,_,rfl,rfl,SqL.of hx,rfl,_,rfl,_,_,rfl,rfl,_,rfl,_,rfl,_,_,rfl,rfl,.inr ⟨by omega,by omega⟩,_,rfl,_,_,rfl,rfl,.inl ⟨by omega,by omega⟩,_,_,rfl,rfl,?_⟩
     refine ⟨_,rfl,x,_,0,_,rfl,rfl,SqL.of hx,rfl,_,rfl,_,_,rfl,rfl,_,rfl,sz (by simp),fun q hq=>?_⟩
     have e2:(upd H11 q (.lst [(fun i j=>V.int (i+j)) (Mu.gT hm3 tk).1 p.2.1,V.int ((Mu.gT hm3 tk).2+p.2.2+(d:Int)*st*p.2.1)]))=upd H11 q (.lst [.int ((Mu.gT hm3 tk).1+p.2.1),.int ((Mu.gT hm3 tk).2+(p.2.2+(d:Int)*st*p.2.1))]):=by rw [Int.add_assoc]
     rw [show (upd H11 q _)=upd H11 q (.lst [.int ((Mu.gT hm3 tk).1+p.2.1),.int ((Mu.gT hm3 tk).2+(p.2.2+(d:Int)*st*p.2.1))]) from e2]
     have s12:=same_upd (o:=.lst [.int ((Mu.gT hm3 tk).1+p.2.1),.int ((Mu.gT hm3 tk).2+(p.2.2+(d:Int)*st*p.2.1))]) hq
     have u12:(upd H11 q (.lst [.int ((Mu.gT hm3 tk).1+p.2.1),.int ((Mu.gT hm3 tk).2+(p.2.2+(d:Int)*st*p.2.1))])) q=_:=upd_same
     generalize upd H11 q (.lst [.int ((Mu.gT hm3 tk).1+p.2.1),.int ((Mu.gT hm3 tk).2+(p.2.2+(d:Int)*st*p.2.1))])=H12 at s12 u12⊢
     have mo12:=s12 _ _ mo11
     have pm12:=pm11.keep s12
     have T12:=s11.trans s12
     refine ⟨_,rfl,_,rfl,_,rfl,_,rfl,_,_,rfl,rfl,.inr ⟨by omega,by omega⟩,_,_,rfl,rfl,mo,_,rfl,(show DPut H12 mo (V.int (p.1+(d:Int)*wt)) (V.ref q) _ by rw [← htk];exact DPut.k (k:=Sum.inl tk) mo12 (szl (by rw [PL.len pm12];omega))),?_⟩
     have kpm:Kp [mo] H12 (upd H12 mo (.dK (putK km3 (Sum.inl tk) (.ref q)))):=kp_upd Kp.refl (.inl (by simp))
     refine ⟨_,_,_,rfl,?_,?_,_,_,upd_same,PL.kp (PL.put (n:=((Mu.gT hm3 tk).1+p.2.1,(Mu.gT hm3 tk).2+(p.2.2+(d:Int)*st*p.2.1))) pm12 u12) kpm mo12 (fun x y z=>nomatch z),?_,fun A B=>?_⟩
     ·rw [upd_ne ntm];exact T12 _ _ ft10
     ·exact kp_upd (fun y ob e n=>T12 _ _ (kp10 y ob e n)) (.inr hmo)
     ·refine ok3.add ?_
      rw [htk]
      exact Me.step_in pb hwb hb hd'
     ·have:=Mu.TT_add (k:=tk) (n:=p.2.1) (v:=p.2.2+(d:Int)*st*p.2.1) (A:=A) (B:=B) ok3.nd
      rw [show Mu.putT hm3 tk ((Mu.gT hm3 tk).1+p.2.1,(Mu.gT hm3 tk).2+(p.2.2+(d:Int)*st*p.2.1))=Mu.addT hm3 tk p.2.1 (p.2.2+(d:Int)*st*p.2.1) from rfl,this,e3 A B,htk]
      exact f_step _ _ _ _ _ _ 0 _ _
    ·rintro σ H10 ⟨v9,v10,v11,rfl,ft10,kp10,km3,hm3,mo10,pm10,ok3,e3⟩
     refine ⟨_,_,_,_,_,_,rfl,ft10,kp10,km3,hm3,mo10,pm10,ok3,fun A B=>?_⟩
     have eb:(b:Int).toNat=b:=by omega
     rw [e3 A B,Mu.TT_take hp,eb]
   ·rintro σ H8 ⟨v6,v7,v8,v9,v10,v11,rfl,ft,kp8,km,hm,mo8,pm,ok0,e0⟩
    have el:kvs.length=h.length:=PL.len pd
    rw [el,List.take_length] at e0
    have ntl:t≠l:=fun z=>by rw [z,l6] at td;cases td
    have kp5':Same H H6:=fun y ob e=>kp6 _ _ (S5 _ _ e) (by have:=ne_of_none e hlH;simpa using this)
    have key:∀ y ob,H6 y=some ob→(upd H8 t (.dK kvs)) y=some ob:=fun y ob e=>by
     by_cases hy:y=t
     ·rw [hy,upd_same,← td,← hy];exact e
     ·rw [upd_ne hy];exact kp8 y ob e (by simpa using hy)
    have l8:=key _ _ l6
    have mo9:(upd H8 t (.dK kvs)) mo=some (.dK km):=by rw [upd_ne ntm.symm];exact mo8
    have pm9:PL (upd H8 t (.dK kvs)) km hm:=PL.lsts pm fun a x y e=>by
     have:a≠t:=fun z=>by rw [z,ft] at e;cases e
     rw [upd_ne this];exact e
    have T8:TailsL (upd H8 t (.dK kvs)) b ts ws:=T6.keep key
    refine ⟨t,o,kvs,ft,(fun o' u z=>by
     have z':H t=some (.frz o' u):=z
     have:=kp5' _ _ z'
     rw [td] at this;cases this),?_⟩
    have kp9:Kp [l] H5 (upd H8 t (.dK kvs)):=fun y ob e n=>key _ _ (kp6 y ob e n)
    generalize upd H8 t (.dK kvs)=H9 at key l8 mo9 pm9 T8 kp9⊢
    refine ⟨_,rfl,.inl ⟨rfl,_,SqL.of l8⟩,_,rfl,l,_,_,rfl,rfl,l8,szl (by rw [List.length_map];omega),?_⟩
    have nml:mo≠l:=nlm.symm
    refine ⟨_,rfl,_,rfl,_,_,rfl,rfl,.inr ⟨by omega,by omega⟩,ts++[mo],some (.int wt),some (.ref mo),v6,v7,v8,v9,v10,v11,?_,kp_upd kp9 (.inl (by simp)),by rw [upd_same,List.map_append];rfl,by simp [htl,hrl],fun t' ht'=>?_,fun j t' e=>?_⟩
    ·have:((b ^ (r.length+1):Nat):Int)=st*(b:Int):=by rw [← est,Nat.pow_succ];push_cast;rfl
     rw [this]
     rfl
    ·rcases List.mem_append.mp ht' with ht' | ht'
     ·exact hnw t' ht'
     ·rw [List.mem_singleton.mp ht'];exact kp5'.free hmo
    ·have offl:∀ y x z,H9 y=some (.lst [.int x,.int z])→y≠l:=fun y x z e q=>by
      rw [q,l8] at e
      have e':=Option.some.inj e
      injection e' with e'
      cases ts with
      | nil=>simp at htl
      | cons a r=>cases e'
     have keepD:∀ y kv,H9 y=some (.dK kv)→(upd H9 l (.lst (ts.map V.ref++[V.ref mo]))) y=some (.dK kv):=fun y kv e=>by
      have:y≠l:=fun q=>by rw [q,l8] at e;cases e
      rw [upd_ne this];exact e
     have keepL:∀ y x z,H9 y=some (.lst [.int x,.int z])→(upd H9 l (.lst (ts.map V.ref++[V.ref mo]))) y=some (.lst [.int x,.int z]):=fun y x z e=>by rw [upd_ne (offl y x z e)];exact e
     by_cases hm':j<ts.length
     ·rw [List.getElem?_append_left hm'] at e
      obtain ⟨kv',h',b1,b2,b3⟩:=T8 j t' e
      exact ⟨kv',h',keepD _ _ b1,b2.lsts keepL,b3⟩
     ·have hj:j=i+1:=by
       have:=(List.getElem?_eq_some_iff.mp e).1
       simp at this
       omega
      subst hj
      rw [List.getElem?_append_right (by omega),htl,Nat.sub_self] at e
      have e1:mo=t':=by simpa using e
      subst e1
      refine ⟨km,hm,keepD _ _ mo9,pm9.lsts keepL,?_⟩
      rw [edr]
      have e5:(135*((i+1:Nat):Int))=135*(i:Int)+135:=by push_cast;omega
      rw [e5]
      refine Mu.Rep.ahead R ok0 fun A B=>?_
      rw [e0 A B,← est]
      rfl
  ·rintro σ H6 ⟨ts,v4,v5,v6,v7,v8,v9,v10,v11,rfl,kp6,l6,htl,hnw,T6⟩
   have el:((ws.map V.int).reverse).length=ws.length:=by simp
   rw [el] at htl
   exact ⟨_,rfl,k l ts H6 hlH (fun y ob e=>kp6 _ _ (S5 _ _ e) (by have:=ne_of_none e hlH;simpa using this)) l6 htl hnw T6⟩
end
end Hv
namespace L2
open PySem PySem.Spec PyProof.Rows
theorem op_mulW{X:Cx}:OpR X (binaryOp .Mult) (rI (fun i j=>i.natAbs<2 ^ 200∧j.natAbs<2 ^ 200) fun i j=>.int (i*j)):=opI fun _ _ _ _ _ _ _ hc q =>
 mul_int q (IntMulOk.of_bits (Nat.le_trans (intBits_le hc.1) (by decide)) (Nat.le_trans (intBits_le hc.2) (by decide)))
end L2
namespace Hv
open PySem L2
theorem sumN:∀ ps:List Nat,(ps.map fun (p:Nat)=>(p:Int)).sum=((ps.sum:Nat):Int)
 | []=>rfl
 | p::ps=>by rw [List.map_cons,List.sum_cons,List.sum_cons,sumN ps];push_cast;rfl
theorem Rd.keep{H H':Hp}{a:Addr}{u:HO}(h:Rd H a u)(s:Same H H'):Rd H' a u:=by
 rcases h with h | ⟨o,h⟩
 ·exact .inl (s _ _ h)
 ·exact .inr ⟨o,s _ _ h⟩
noncomputable def TellsAt(H:Hp)(one:Int)(r:Addr)(q:(Int×Int)×Int):Prop:=∃ kvs h,Rd H r (.dK kvs)∧PL H kvs h∧Mu.gT h one=q.1
theorem TellsAt.keep{H H':Hp}{one:Int}{r:Addr}{q:(Int×Int)×Int}(h:TellsAt H one r q)(s:Same H H'):TellsAt H' one r q:=let ⟨kvs,g,a1,a2,a3⟩:=h;⟨kvs,g,Rd.keep a1 s,a2.keep s,a3⟩
noncomputable def spBehindL:Sp:=fun vs H Q _=>∃ (rl pl:Addr) (rs:List Addr) (qs:List ((Int×Int)×Int)) (one:Int),vs=[.ref rl,.ref pl,.int one]∧H rl=some (.lst (rs.map V.ref))∧H pl=some (.lst (qs.map fun q=>V.int q.2))∧Paired (TellsAt H one) rs qs∧
 (∀ q∈qs,(0≤q.1.1∧q.1.1≤16777216)∧(0≤q.1.2∧q.1.2≤16777216*16777216)∧0≤q.2∧q.2≤16777216)∧
 ∀ (p:Addr) (H':Hp),H p=none→Same H H'→H' p=some (.lst [.int (Mu.bh qs (1,0)).1,.int (Mu.bh qs (1,0)).2])→Q (.ref p) H'
noncomputable def spPowL:Sp:=fun vs H Q _=>∃ b n:Nat,vs=[.int b,.int n]∧b≤16∧n≤100∧Q (.int ((b ^ n:Nat):Int)) H
theorem bh_take{i:Nat}{qs:List ((Int×Int)×Int)}{q:(Int×Int)×Int}(h:qs[i]?=some q)(s:Int×Int):Mu.bh (qs.take (i+1)) s=((Mu.bh (qs.take i) s).1*q.1.1,(Mu.bh (qs.take i) s).2*q.2*q.1.1+(Mu.bh (qs.take i) s).1*q.1.2):=by
 unfold Mu.bh
 rw [List.take_add_one,h,List.foldl_append]
 rfl
section
variable{P:Program}{w:World}{K:PySem.W.Frag}{mg:Str→Option Value}{base:Heap}
theorem scFigures:FnScope ["frame","n","found","turn"] ["frame","n"] (defScope sFigures):=⟨rfl,rfl,rfl,by decide +kernel,rfl,by decide +kernel,by decide +kernel⟩
theorem ok_figures{f:Addr}{fd:FuncData}(F:Fun K "_law_figures" "_law_figures" sFigures f fd)(T:Txt mg):FnOk P w K mg base CX0 1 f fd ["frame","n"] spFigures:=by
 refine F.ok scFigures (fun vs H Q E h=>?_) (fun cdv A outer s H vs Q E hr h=>?_)
 ·obtain ⟨g,a,c,b,ps,ws,n,rfl,_⟩:=h;rfl
 ·obtain ⟨g,a,c,b,ps,ws,n,rfl,G,hn,k⟩:=h
  have ok:=G.ok
  have hsum:=ok.sum
  have b2:=ok.b2
  have b16:=ok.b16
  have nd:=scFigures.nd
  refine ⟨_,pss_cons (ps_set (i:=2) nd rfl (Or.inl rfl) (pe_lst pa_nil))
   (pss_cons (ps_for PassesOwn.never rfl (pi_range1 (by rfl) T.range (pa_cons (pe_callB (call_sumA rfl) (by rfl) T.sum boot_sum (pa_cons (ixt (pv 0) pe_int) pa_nil)) pa_nil)) (pg_name (i:=3) nd rfl (Or.inl rfl))
    (pss_cons (ps_expr (pe_bm PySem.F.plainAttrs_list PySem.F.slot_list_append PySem.F.type_list_append mt_append (pv 2) (pa_cons (pe_op op_mod (pv 1) (ixt (pv 0) pe_int)) pa_nil)))
    (pss_one (ps_set (i:=1) nd rfl (Or.inl rfl) (pe_op op_fdiv (pv 1) (ixt (pv 0) pe_int))))))
   (pss_one (ps_ret (pe_srev (pv 2) (pe_un un_neg pe_int))))),?_⟩
  refine ⟨sz (by decide),fun l hl=>?_⟩
  have s3:Same H (upd H l (.lst [])):=same_upd hl
  have G3:=G.keep s3
  refine ⟨_,rfl,_,_,_,_,rfl,rfl,SqT.of G3.tp,rfl,a,ps.map (fun (p:Nat)=>(p:Int)),rfl,SqL.of (by rw [← natV_eq];exact G3.hp),?_⟩
  rw [sumN]
  refine ⟨_,rfl,by omega,by omega,?_⟩
  have en:((ps.sum:Nat):Int).toNat=ps.sum:=Int.toNat_natCast _
  rw [en]
  refine for_range (n:=ps.sum) (fun i σ H4=>∃ v,σ=[some (.ref g),some (.int ((n / b ^ i:Nat):Int)),some (.ref l),v]∧Same H H4∧H4 l=some (.lst (natV (Ma.ups b n i)))) ⟨none,(by rw [Nat.pow_zero,Nat.div_one];rfl),s3,upd_same⟩ ?_ ?_
  ·rintro i σ H4 hi ⟨v,rfl,s4,h4⟩
   have G4:=G.keep s4
   refine ⟨_,rfl,.inl ⟨rfl,_,SqL.of h4⟩,_,rfl,_,rfl,_,_,_,_,rfl,rfl,SqT.of G4.tp,rfl,⟨_,_,rfl,rfl,(by show (0:Int)<b;omega),l,_,_,rfl,rfl,h4,szl (by simp [natV,Ma.ups_len];omega),?_⟩⟩
   have s5:Same H (upd H4 l (.lst (natV (Ma.ups b n i)++[V.int (((n / b ^ i:Nat):Int) % (b:Int))]))):=same_upd2 s4 hl
   refine ⟨_,rfl,_,rfl,_,_,_,_,rfl,rfl,SqT.of (G.keep s5).tp,rfl,⟨_,_,rfl,rfl,⟨by show (0:Int)<b;omega,by show (b:Int)<1073741824;omega⟩,some (.int (0+(i:Int))),?_,s5,?_⟩⟩
   ·rw [← Ma.div_up]
    push_cast
    rfl
   ·rw [upd_same,Ma.ups_succ]
    simp [natV]
  ·rintro σ H4 ⟨v,rfl,s4,h4⟩
   refine ⟨_,rfl,_,rfl,rfl,l,_,rfl,SqL.of h4,fun r hr'=>?_⟩
   refine k r _ (s4.free hr') (same_upd2 s4 (s4.free hr')) ?_
   rw [upd_same,← Ma.ups_rev]
   simp [natV]
theorem scPowL:FnScope ["base","many","found","turn"] ["base","many"] (defScope sLawPower):=⟨rfl,rfl,rfl,by decide +kernel,rfl,by decide +kernel,by decide +kernel⟩
theorem ok_powl{f:Addr}{fd:FuncData}(F:Fun K "_law_power" "_law_power" sLawPower f fd)(T:Txt mg):FnOk P w K mg base CX0 1 f fd ["base","many"] spPowL:=by
 refine F.ok scPowL (fun vs H Q E h=>?_) (fun cdv A outer s H vs Q E hr h=>?_)
 ·obtain ⟨b,n,rfl,_⟩:=h;rfl
 ·obtain ⟨b,n,rfl,hb,hn,k⟩:=h
  have nd:=scPowL.nd
  refine ⟨_,pss_cons (ps_set (i:=2) nd rfl (Or.inl rfl) pe_int)
   (pss_cons (ps_for PassesOwn.never rfl (pi_range1 (by rfl) T.range (pa_cons (pv 1) pa_nil)) (pg_name (i:=3) nd rfl (Or.inl rfl))
    (pss_one (ps_set (i:=2) nd rfl (Or.inl rfl) (pe_op op_mul (pv 2) (pv 0)))))
   (pss_one (ps_ret (pv 2)))),?_⟩
  refine ⟨_,rfl,_,rfl,by omega,by omega,?_⟩
  have en:(n:Int).toNat=n:=Int.toNat_natCast _
  rw [en]
  refine for_range (n:=n) (fun i σ H2=>∃ v3,σ=[some (.int b),some (.int n),some (.int ((b ^ i:Nat):Int)),v3]∧H2=H) ⟨none,by rw [Nat.pow_zero];rfl,rfl⟩ ?_ ?_
  ·rintro i σ H2 hi ⟨v3,rfl,rfl⟩
   refine ⟨_,rfl,_,rfl,_,_,rfl,rfl,.inr ⟨by omega,by omega⟩,some (.int (0+(i:Int))),?_,rfl⟩
   have e:((b ^ (i+1):Nat):Int)=((b ^ i:Nat):Int)*(b:Int):=by rw [Nat.pow_succ];push_cast;rfl
   rw [e]
   rfl
  ·rintro σ H2 ⟨v3,rfl,rfl⟩
   exact ⟨_,rfl,k⟩
theorem scBehindL:FnScope ["rows","powers","one","many","total","row","power","more","numbers"] ["rows","powers","one"] (defScope sLawBehind):=⟨rfl,rfl,rfl,by decide +kernel,rfl,by decide +kernel,by decide +kernel⟩
theorem ok_behindl{f:Addr}{fd:FuncData}(F:Fun K "_law_behind" "_law_behind" sLawBehind f fd)(T:Txt mg):FnOk P w K mg base CX0 1 f fd ["rows","powers","one"] spBehindL:=by
 refine F.ok scBehindL (fun vs H Q E h=>?_) (fun cdv A outer s H vs Q E hr h=>?_)
 ·obtain ⟨rl,pl,rs,qs,one,rfl,_⟩:=h;rfl
 ·obtain ⟨rl,pl,rs,qs,one,rfl,hrl,hpl,PQ,bd,k⟩:=h
  have nd:=scBehindL.nd
  have hu:=hu_of hr
  refine ⟨_,pss_cons (ps_set (i:=3) nd rfl (Or.inl rfl) pe_int)
   (pss_cons (ps_set (i:=4) nd rfl (Or.inl rfl) pe_int)
   (pss_cons (ps_for PassesOwn.never rfl (pi_zip (by rfl) T.zip (pv 0) (pv 1)) (pg_tup rfl (pgs_cons (pg_name (i:=5) nd rfl (Or.inl rfl)) (pgs_cons (pg_name (i:=6) nd rfl (Or.inl rfl)) pgs_nil)))
    (pss_cons (ps_asg (pe_dget2 hu (pv 5) (pv 2) (pe_lst (pa_cons pe_int (pa_cons pe_int pa_nil))) ⟨rfl,rfl,rfl,rfl⟩) (pg_lst rfl (pgs_cons (pg_name (i:=7) nd rfl (Or.inl rfl)) (pgs_cons (pg_name (i:=8) nd rfl (Or.inl rfl)) pgs_nil))))
    (pss_cons (ps_set (i:=4) nd rfl (Or.inl rfl) (pe_op op_add (pe_op op_mul (pe_op op_mul (pv 4) (pv 6)) (pv 7)) (pe_op op_mul (pv 3) (pv 8))))
    (pss_one (ps_set (i:=3) nd rfl (Or.inl rfl) (pe_op op_mul (pv 3) (pv 7)))))))
   (pss_one (ps_ret (pe_lst (pa_cons (pv 3) (pa_cons (pv 4) pa_nil))))))),?_⟩
  have hlen:=Paired.length PQ
  refine ⟨_,rfl,_,rfl,rl,pl,rfl,rfl,⟨_,SqL.of hrl⟩,⟨_,SqL.of hpl⟩,for_zip (K:=K) (a:=rl) (b:=pl) (xs:=rs.map V.ref) (ys:=qs.map fun q=>V.int q.2) (fun i σ H2=>∃ (v5 v6 v7 v8:Option V),σ=[some (.ref rl),some (.ref pl),some (.int one),some (.int (Mu.bh (qs.take i) (1,0)).1),some (.int (Mu.bh (qs.take i) (1,0)).2),v5,v6,v7,v8]∧Same H H2) (by simp [hlen])
   ⟨none,none,none,none,rfl,Same.refl _⟩ (fun i σ H2 _ h=>by obtain ⟨_,_,_,_,_,z⟩:=h;exact ⟨SqL.of (z _ _ hrl),SqL.of (z _ _ hpl)⟩) ?_ ?_⟩
  ·rintro i x y σ H2 t hx hy ⟨v5,v6,v7,v8,rfl,s2⟩ ht
   obtain ⟨r,hri,rfl⟩:=ref_at hx
   obtain ⟨q,hq,TA⟩:=paired_at PQ hri
   have ey:y=.int q.2:=by
    rw [List.getElem?_map,hq] at hy
    exact (Option.some.inj hy).symm
   subst ey
   have bq:=bd q (List.mem_of_getElem? hq)
   have s3:=same_upd (o:=.tup [.ref r,.int q.2]) ht
   have u3:(upd H2 t (.tup [.ref r,.int q.2])) t=_:=upd_same
   refine ⟨t,_,rfl,SqT.of u3,rfl,_,_,rfl,_,_,rfl,rfl,?_⟩
   have S3:=s2.trans s3
   generalize upd H2 t (.tup [.ref r,.int q.2])=H3 at s3 u3 S3⊢
   obtain ⟨kvs,h,rd,pl3,eg⟩:=TA.keep S3
   refine ⟨_,rfl,r,rfl,.inl ⟨kvs,rd⟩,_,rfl,sz (by simp),fun z1 hz1=>?_⟩
   have s4:=same_upd (o:=.lst [.int 0,.int 0]) hz1
   have u4:(upd H3 z1 (.lst [.int 0,.int 0])) z1=some (.lst [.int 0,.int 0]):=upd_same
   generalize upd H3 z1 (.lst [.int 0,.int 0])=H4 at s4 u4⊢
   have pl4:=pl3.keep s4
   have key:∃ x,(valV kvs (Sum.inl one)).getD (.ref z1)=.ref x∧H4 x=some (.lst [.int q.1.1,.int q.1.2]):=by
    rw [← eg]
    unfold Mu.gT
    rcases PL.val one pl4 with ⟨e1,e2⟩ | ⟨m,x,e1,e2,e3⟩
    ·rw [e1,e2];exact ⟨z1,rfl,u4⟩
    ·rw [e1,e2];exact ⟨x,rfl,e3⟩
   obtain ⟨x,ex,hx4⟩:=key
   refine ⟨valV kvs (Sum.inl one),.inl ⟨kvs,Sum.inl one,Rd.keep rd s4,rfl,rfl⟩,?_⟩
   rw [ex]
   refine ⟨x,_,rfl,SqL.of hx4,rfl,_,_,rfl,_,_,rfl,rfl,?_⟩
   refine ⟨_,rfl,_,rfl,_,_,rfl,rfl,.inr ⟨by omega,by omega⟩,_,rfl,_,_,rfl,rfl,.inr ⟨by omega,by omega⟩,_,rfl,_,rfl,_,_,rfl,rfl,.inr ⟨by omega,by omega⟩,_,_,rfl,rfl,?_⟩
   refine ⟨_,rfl,_,rfl,_,_,rfl,rfl,.inr ⟨by omega,by omega⟩,some (.ref r),some (.int q.2),some (.int q.1.1),some (.int q.1.2),?_,S3.trans s4⟩
   rw [bh_take hq]
   rfl
  ·rintro σ H2 ⟨v5,v6,v7,v8,rfl,s2⟩
   have el:(rs.map V.ref).length=qs.length:=by rw [List.length_map,hlen]
   rw [el,List.take_length]
   exact ⟨_,rfl,_,rfl,sz (by simp),fun p hp=>k p _ (s2.free hp) (s2.trans (same_upd hp)) upd_same⟩
end
end Hv
namespace Mu
open Me Mg
noncomputable def Fone(b X:Nat)(r:List Int)(ps:List Nat)(ws:List Int)(g:Int×Int)(one:Int):Int :=
 ((X*b ^ (r.length+ps.sum):Nat):Int)*(bh ((g,((b ^ r.length:Nat):Int))::lst b (Ma.cuts ps ws) one) (1,0)).1+(bh ((g,((b ^ r.length:Nat):Int))::lst b (Ma.cuts ps ws) one) (1,0)).2
theorem Fone_eq{b X:Nat}(hb:0<b){r:List Int}{ps:List Nat}{ws:List Int}(hw:ws.length=ps.sum)(g:Int×Int)(one:Int) :
  Fone b X r ps ws g one=g.1*(((X*b ^ (r.length+ps.sum):Nat):Int)*ns (allS b ps ws one) (b ^ ps.sum)+ns (fun z=>allS b ps ws one z*(z:Int)) (b ^ ps.sum))+g.2*(((b ^ ps.sum:Nat):Int)*ns (allS b ps ws one) (b ^ ps.sum)):=by
 unfold Fone
 obtain ⟨i1,i2⟩:=bh_rows hb one ps ws hw
 rw [bh_cons,bh_lin,i1,i2]
 generalize ns (allS b ps ws one) (b ^ ps.sum)=A
 generalize ns (fun z=>allS b ps ws one z*(z:Int)) (b ^ ps.sum)=B
 simp only
 grind
theorem sum_none{b X:Nat}(hb:0<b){r:List Int}{ps:List Nat}{ws:List Int}{c m:Int}{h:Tri}(hw:ws.length=ps.sum)(R:Rep h m 0 (b ^ r.length) (fun n=>ws1 b n r) fun _=>1) :
  (h.map fun q=>Fone b X r ps ws (gT h (c+q.1 - c)) (c+q.1)).sum=blkV b X r c none ps ws:=by
 rw [← blk_tt (X:=X) (c:=c) (tg:=none) (ps:=ps) (ws:=ws) R]
 unfold TT
 congr 1
 refine List.map_congr_left fun q hq=>?_
 have e:c+q.1 - c=q.1:=by omega
 have eg:gT h q.1=q.2:=by unfold gT;rw [look_memT R.ok.nd hq];rfl
 rw [Fone_eq hb hw,e,eg]
 simp only [selB,if_true]
theorem sum_some{b X:Nat}(hb:0<b){r:List Int}{ps:List Nat}{ws:List Int}{c m t:Int}{h:Tri}(hw:ws.length=ps.sum)(R:Rep h m 0 (b ^ r.length) (fun n=>ws1 b n r) fun _=>1) :
  Fone b X r ps ws (gT h (t - c)) t=blkV b X r c (some t) ps ws:=by
 rw [← blk_tt (X:=X) (c:=c) (tg:=some t) (ps:=ps) (ws:=ws) R,Fone_eq hb hw,← TT_at _ _ R.ok.nd]
 refine TT_congr (fun k=>?_) fun k=>?_
 ·unfold selB
  by_cases h:k=t - c
  ·have e:c+k=t:=by omega
   simp only [e,decide_true,if_true,if_pos h]
  ·have e:¬ c+k=t:=by omega
   simp only [e,decide_false,if_neg h]
   rfl
 ·unfold selB
  by_cases h:k=t - c
  ·have e:c+k=t:=by omega
   simp only [e,decide_true,if_true,if_pos h]
  ·have e:¬ c+k=t:=by omega
   simp only [e,decide_false,if_neg h]
   rfl
theorem allS_in(b:Nat)(ps:List Nat)(ws:List Int)(one:Int)(z:Nat):0≤allS b ps ws one z∧allS b ps ws one z≤1:=by
 unfold allS
 split <;> decide
theorem bh_bound{b:Nat}(hb:0<b){ps:List Nat}{ws:List Int}(hw:ws.length=ps.sum)(g:Int×Int)(pw one:Int)(hg:0≤g.1∧g.1≤16777216):0≤(bh ((g,pw)::lst b (Ma.cuts ps ws) one) (1,0)).1∧(bh ((g,pw)::lst b (Ma.cuts ps ws) one) (1,0)).1≤16777216*((b ^ ps.sum:Nat):Int):=by
 obtain ⟨i1,i2⟩:=bh_rows hb one ps ws hw
 rw [bh_cons,bh_lin,i1,i2]
 simp only [Int.one_mul]
 have h0:0≤ns (allS b ps ws one) (b ^ ps.sum):=ns_nn fun i _=>(allS_in b ps ws one i).1
 have h1:ns (allS b ps ws one) (b ^ ps.sum)≤((b ^ ps.sum:Nat):Int):=by
  have:=ns_le (g:=allS b ps ws one) (h:=fun _=>1) (n:=b ^ ps.sum) fun i _=>(allS_in b ps ws one i).2
  rw [ns_const,Int.mul_one] at this
  exact this
 exact ⟨Int.mul_nonneg hg.1 h0,Int.mul_le_mul hg.2 h1 h0 (by decide)⟩
end Mu
namespace Hv
open PySem L2
noncomputable def DRep(H:Hp)(b:Nat)(d:Addr)(row:List Int):Prop:=∃ kvs h,∃ m:Nat,H d=some (.dK kvs)∧PL H kvs h∧RepA h m b row∧m≤1000
theorem DRep.keep{H H':Hp}{b:Nat}{row:List Int}{d:Addr}(h:DRep H b d row)(s:Same H H'):DRep H' b d row:=let ⟨kvs,g,m,a1,a2,a3,a4⟩:=h;⟨kvs,g,m,s _ _ a1,a2.keep s,a3,a4⟩
noncomputable abbrev tgV(tg:Option Int):V:=match tg with
 | none=>.non
 | some t=>.int t
structure WithAt(H:Hp)(b:Nat)(ps:List Nat)(ah rw mo r0 r1 own:Addr)(whole:List Addr)(ds:List Nat)(r:List Int)(ps2:List Nat)(ws2:List Int)(bg:Int)(tg:Option Int):Prop where
 ah:H ah=some (.lst (natV ds))
 dl:∀ d∈ds,d<b
 rw:H rw=some (.lst [.ref r0,.ref r1])
 r0:H r0=some (.lst (V.ref own::whole.map V.ref))
 r1:H r1=some (.lst (V.int ((b ^ r.length:Nat):Int)::(Ma.cuts ps2 ws2).map fun row=>V.int ((b ^ row.length:Nat):Int)))
 mo:H mo=some (.lst [.int bg,tgV tg])
 own:DRep H b own r
 whole:Paired (DRep H b) whole (Ma.cuts ps2 ws2)
 wl:ws2.length=ps2.sum
 ln:ds.length+(r.length+ps2.sum)=ps.sum
 r6:r.length≤6
 p6:∀ row∈Ma.cuts ps2 ws2,row.length≤6
 l4:ps2.length≤4
noncomputable def spWith:Sp:=fun vs H Q _=>∃ f a c b ps ws,∃ (ah rw mo r0 r1 own:Addr) (whole:List Addr) (ds:List Nat) (r:List Int) (ps2:List Nat) (ws2:List Int) (bg:Int) (tg:Option Int),vs=[.ref f,.ref ah,.ref rw,.ref mo]∧FrAt H f a c b ps ws∧
 WithAt H b ps ah rw mo r0 r1 own whole ds r ps2 ws2 bg tg∧∀ H',Same H H'→Q (.int (Mu.blkV b (Ma.num b ds) r bg tg ps2 ws2)) H'
theorem natV_at{xs:List Nat}{i:Nat}{x:V}(h:(natV xs)[i]?=some x):∃ y:Nat,xs[i]?=some y∧x=.int (y:Int):=by
 rw [natV,List.getElem?_map] at h
 cases e:xs[i]? with
 | none=>rw [e] at h;cases h
 | some d=>rw [e] at h;exact ⟨d,rfl,(Option.some.inj h).symm⟩
theorem intV_at{xs:List Int}{i:Nat}{x:V}(h:(xs.map V.int)[i]?=some x):∃ y,xs[i]?=some y∧x=.int y:=by
 rw [List.getElem?_map] at h
 cases e:xs[i]? with
 | none=>rw [e] at h;cases h
 | some d=>rw [e] at h;exact ⟨d,rfl,(Option.some.inj h).symm⟩
theorem RepA.gt{h:Mu.Tri}{m:Int}{b:Nat}{r:List Int}(R:RepA h m b r)(hb:b≤16)(hr:r.length≤6)(t:Int):(0≤(Mu.gT h t).1∧(Mu.gT h t).1≤16777216)∧(0≤(Mu.gT h t).2∧(Mu.gT h t).2≤16777216*16777216):=by
 have h1:=R.ways_in one01 t
 have h2:=R.worth_in one01 t
 have hpw:b ^ r.length≤16 ^ 6:=Nat.le_trans (Nat.pow_le_pow_left hb _) (Nat.pow_le_pow_right (by decide) hr)
 have h16:(16:Nat) ^ 6=16777216:=by decide
 have hk:((b ^ r.length:Nat):Int)≤16777216:=by omega
 refine ⟨⟨h1.1,by omega⟩,h2.1,Int.le_trans h2.2 ?_⟩
 rw [Nat.zero_add]
 exact Int.mul_le_mul hk hk (by omega) (by decide)
theorem tells_all{H:Hp}{b:Nat}{one:Int}:∀ {ds:List Addr} {rows:List (List Int)},Paired (DRep H b) ds rows→Paired (TellsAt H one) ds (Mu.lst b rows one)
 | _,_,.nil=>.nil
 | _,_,.cons ⟨kvs,h,m,a1,a2,a3,a4⟩ t=>.cons ⟨kvs,h,.inl a1,a2,Mu.rep_wg a3 one⟩ (tells_all t)
theorem whole_keep{H H':Hp}{b:Nat}{ds:List Addr}{rows:List (List Int)}(h:Paired (DRep H b) ds rows)(s:Same H H'):Paired (DRep H' b) ds rows:=L2.Paired.mapP h fun _ _ e=>e.keep s
theorem tells_in{H:Hp}{b:Nat}{one:Int}(hb:b≤16):∀ {ds:List Addr} {rows:List (List Int)},Paired (DRep H b) ds rows→(∀ row∈rows,row.length≤6)→∀ q∈Mu.lst b rows one,(0≤q.1.1∧q.1.1≤16777216)∧(0≤q.1.2∧q.1.2≤16777216*16777216)∧0≤q.2∧q.2≤16777216
 | _,_,.nil,_,q,hq=>by simp [Mu.lst] at hq
 | _,row::rows,.cons ⟨kvs,h,m,a1,a2,a3,a4⟩ t,h6,q,hq=>by
  have e:Mu.lst b (row::rows) one=(Mu.wg b row one,((b ^ row.length:Nat):Int))::Mu.lst b rows one:=rfl
  rw [e] at hq
  rcases List.mem_cons.mp hq with rfl | hq
  ·have g:=RepA.gt a3 hb (h6 row (by simp)) one
   rw [Mu.rep_wg a3 one] at g
   have hpw:b ^ row.length≤16 ^ 6:=Nat.le_trans (Nat.pow_le_pow_left hb _) (Nat.pow_le_pow_right (by decide) (h6 row (by simp)))
   have h16:(16:Nat) ^ 6=16777216:=by decide
   exact ⟨g.1,g.2,by simp only;omega,by simp only;omega⟩
  ·exact tells_in hb t (fun r hr=>h6 r (by simp [hr])) q hq
theorem pow_big{b n:Nat}(hb:b≤16)(hn:n≤24):b ^ n≤79228162514264337593543950336:=by
 have h1:b ^ n≤16 ^ 24:=Nat.le_trans (Nat.pow_le_pow_left hb _) (Nat.pow_le_pow_right (by decide) hn)
 have h2:(16:Nat) ^ 24=79228162514264337593543950336:=by decide
 omega
theorem cut_1{x:V}{xs:List V}:cutV (x::xs) (some 1) none=xs:=by
 rw [cut_one];rfl
section
variable{P:Program}{w:World}{K:PySem.W.Frag}{mg:Str→Option Value}{base:Heap}
noncomputable abbrev nsWith:List Str:=["frame","ahead","rows","more","begun","target","number","figure","shift","sums","found","one","first","many","total"]
theorem scWith:FnScope nsWith ["frame","ahead","rows","more"] (defScope sLawWith):=⟨rfl,rfl,rfl,by decide +kernel,rfl,by decide +kernel,by decide +kernel⟩
theorem ok_with{f:Addr}{fd:FuncData}(F:Fun K "_law_with" "_law_with" sLawWith f fd)(T:Txt mg)(DP:Def P w K mg base 1 "_law_power" ["base","many"] spPowL)(DB:Def P w K mg base 1 "_law_behind" ["rows","powers","one"] spBehindL):FnOk P w K mg base CX0 2 f fd ["frame","ahead","rows","more"] spWith:=by
 refine F.ok scWith (fun vs H Q E h=>?_) (fun cdv A outer s H vs Q E hr h=>?_)
 ·obtain ⟨f,a,c,b,ps,ws,ah,rw,mo,r0,r1,own,whole,ds,r,ps2,ws2,bg,tg,rfl,_⟩:=h;rfl
 ·obtain ⟨g,a,c,b,ps,ws,ah,rw',mo,r0,r1,own,whole,ds,r,ps2,ws2,bg,tg,rfl,G,W,k⟩:=h
  have nd:=scWith.nd
  have hu:=hu_of hr
  have ok:=G.ok
  have b2:=ok.b2
  have b16:=ok.b16
  have b0:0<b:=by omega
  have hsum:=ok.sum
  refine ⟨_,pss_cons (ps_asg (pv 3) (pg_lst rfl (pgs_cons (pg_name (i:=4) nd rfl (Or.inr rfl)) (pgs_cons (pg_name (i:=5) nd rfl (Or.inl rfl)) pgs_nil))))
   (pss_cons (ps_set (i:=6) nd rfl (Or.inl rfl) pe_int)
   (pss_cons (ps_for PassesOwn.never rfl (pi_list (pv 1)) (pg_name (i:=7) nd rfl (Or.inl rfl)) (pss_one (ps_set (i:=6) nd rfl (Or.inl rfl) (pe_op op_add (pe_op op_mul (pv 6) (ixt (pv 0) pe_int)) (pv 7)))))
   (pss_cons (ps_set (i:=8) nd rfl (Or.inl rfl) (pe_fn DP hr (by rfl) (pa_cons (ixt (pv 0) pe_int) (pa_cons (pe_op op_sub (pe_callB (call_sumA rfl) (by rfl) T.sum boot_sum (pa_cons (ixt (pv 0) pe_int) pa_nil)) (lenS T.len (by rfl) (pv 1))) pa_nil))))
   (pss_cons (ps_cmp1 (defScope sLawWith) nsWith ["begun"] [4] (i:=9) nd rfl (Or.inl rfl) rfl (pi_dict (ixl (ixl (pv 2) pe_int) pe_int)) (fun cl C s H fp=>pf_nil) (fun cl C s H fp=>pe_op op_add (pv 1) (pv 0)) (by decide +kernel) (by rfl))
   (pss_thaw (pss_cons (ps_cut (ps_if (pt_cmpR op_notN (pv 5) pe_non (nomark _)) (pss_one (ps_set (i:=9) nd rfl (Or.inl rfl) (pe_lst (pa_cons (pv 5) pa_nil)))) pss_nil))
   (pss_cons (ps_set (i:=10) nd rfl (Or.inl rfl) pe_int)
   (pss_cons (ps_for PassesOwn.never rfl (pi_list (pv 9)) (pg_name (i:=11) nd rfl (Or.inl rfl))
    (pss_cons (ps_set (i:=12) nd rfl (Or.inl rfl) (pe_D1 (pv 11) (pe_dget2 hu (ixl (ixl (pv 2) pe_int) pe_int) (pe_op op_sub (pv 11) (pv 4)) (pe_lst (pa_cons pe_int (pa_cons pe_int pa_nil))) ⟨rfl,rfl,rfl,rfl⟩)))
    (pss_cons (ps_asg (pe_fn DB hr (by rfl) (pa_cons (pe_op op_cat (pe_lst (pa_cons (pv 12) pa_nil)) (pe_slice sl_list (ixl (pv 2) pe_int) (po_some pe_int) po_none)) (pa_cons (ixl (pv 2) pe_int) (pa_cons (pv 11) pa_nil)))) (pg_lst rfl (pgs_cons (pg_name (i:=13) nd rfl (Or.inl rfl)) (pgs_cons (pg_name (i:=14) nd rfl (Or.inl rfl)) pgs_nil))))
    (pss_one (ps_set (i:=10) nd rfl (Or.inl rfl) (pe_op op_add (pe_op op_add (pv 10) (pe_op op_mulW (pe_op op_mulW (pv 6) (pv 8)) (pv 13))) (pv 14)))))))
   (pss_one (ps_ret (pv 10))))))))))),?_⟩
  obtain ⟨kvs,h,m,hown,pl,R,hm⟩:=W.own
  have hlen:=Mu.OkT.len (m:=m) R.ok
  have eX:∀ i,i≤ds.length→Ma.num b (ds.take i)≤79228162514264337593543950336:=fun i hi=>by
   have h1:=Ma.num_lt (b:=b) (ds.take i) fun d hd=>W.dl d (List.mem_of_mem_take hd)
   have h2:(ds.take i).length≤24:=by rw [List.length_take];have:=W.ln;omega
   have:=pow_big b16 h2
   omega
  refine ⟨_,rfl,mo,_,rfl,SqL.of W.mo,rfl,_,_,rfl,_,_,rfl,rfl,?_⟩
  refine ⟨_,rfl,ah,rfl,⟨_,SqL.of W.ah⟩,for_list (K:=K) (a:=ah) (xs:=natV ds) (fun i σ H'=>∃ v7,σ=[some (.ref g),some (.ref ah),some (.ref rw'),some (.ref mo),some (.int bg),some (tgV tg),some (.int ((Ma.num b (ds.take i):Nat):Int)),v7,none,none,none,none,none,none,none]∧H=H') ⟨none,rfl,rfl⟩ (fun i σ H' _ h=>by obtain ⟨_,_,rfl⟩:=h;exact SqL.of W.ah) ?_ ?_⟩
  ·rintro i x σ H' hx ⟨v7,rfl,rfl⟩
   obtain ⟨d,hd,rfl⟩:=natV_at hx
   refine ⟨_,rfl,_,rfl,_,_,_,_,rfl,rfl,SqT.of G.tp,rfl,_,_,rfl,rfl,.inr ⟨by omega,by omega⟩,_,rfl,_,_,rfl,rfl,some (.int d),?_,rfl⟩
   rw [Ma.num_take hd]
   push_cast
   rfl
  rintro σ H' ⟨v7,rfl,rfl⟩
  have el:(natV ds).length=ds.length:=by simp [natV]
  rw [el,List.take_length]
  refine ⟨_,rfl,_,_,_,_,rfl,rfl,SqT.of G.tp,rfl,_,rfl,_,_,_,_,rfl,rfl,SqT.of G.tp,rfl,a,ps.map (fun (p:Nat)=>(p:Int)),rfl,SqL.of (by rw [← natV_eq];exact G.hp),_,rfl,ah,_,rfl,.inl (SqL.of W.ah),_,_,rfl,rfl,b,r.length+ps2.sum,?_,b16,by have:=W.ln;omega,?_⟩
  ·show [V.int (b:Int),V.int ((ps.map fun (p:Nat)=>(p:Int)).sum - (((natV ds).length:Nat):Int))]=_
   rw [sumN,el,← W.ln]
   congr 3
   push_cast
   omega
  refine ⟨_,rfl,rw',_,0,_,rfl,rfl,SqL.of W.rw,rfl,r0,_,0,_,rfl,rfl,SqL.of W.r0,atI_nat (j:=0) rfl,own,kvs,rfl,hown,fun o=>comp_dict (fun i ys H'=>ys=((h.take i).map fun q=>bg+q.1).map V.int∧upd H own (.frz o (.dK kvs))=H') ⟨rfl,rfl⟩ (fun i ys H' _ q=>by rw [← q.2,upd_same]) ?_ ?_⟩
  ·rintro i kk v ys H' hk ⟨rfl,rfl⟩
   obtain ⟨p,hp,hkk,_⟩:=Paired.at pl hk
   have hkk':kk=Sum.inl p.1:=hkk
   subst hkk'
   refine ⟨szl (by simp only [List.length_map,List.length_take];omega),_,rfl,_,rfl,_,_,rfl,rfl,?_,rfl⟩
   rw [List.take_add_one,hp]
   simp
  rintro ys H' ⟨rfl,rfl⟩ sa hsa
  have elk:kvs.length=h.length:=PL.len pl
  rw [elk,List.take_length]
  have nso:own≠sa:=fun z=>by rw [← z,upd_same] at hsa;cases hsa
  have hsaH:H sa=none:=by rw [upd_ne nso.symm] at hsa;exact hsa
  refine ⟨own,o,kvs,by rw [upd_ne nso,upd_same],(fun o' u z=>by
   have z':H own=some (.frz o' u):=z
   rw [hown] at z';cases z'),?_⟩
  have s1:Same H (upd (upd (upd H own (.frz o (.dK kvs))) sa (.lst ((h.map fun q=>bg+q.1).map V.int))) own (.dK kvs)):=fun y ob e=>by
   by_cases hy:y=own
   ·rw [hy,upd_same,← hown,← hy];exact e
   ·rw [upd_ne hy,upd_ne (ne_of_none e hsaH),upd_ne hy];exact e
  have u1:(upd (upd (upd H own (.frz o (.dK kvs))) sa (.lst ((h.map fun q=>bg+q.1).map V.int))) own (.dK kvs)) sa=some (.lst ((h.map fun q=>bg+q.1).map V.int)):=by rw [upd_ne nso.symm,upd_same]
  generalize upd (upd (upd H own (.frz o (.dK kvs))) sa (.lst ((h.map fun q=>bg+q.1).map V.int))) own (.dK kvs)=H1 at s1 u1⊢
  -- the sums that are asked for
  obtain ⟨FF,hFF⟩:∃ FF:Int→Int,FF=fun one=>Mu.Fone b (Ma.num b ds) r ps2 ws2 (Mu.gT h (one - bg)) one:=⟨_,rfl⟩
  refine ⟨fun σ' H'=>∃ (sx:Addr) (ones:List Int),σ'=[some (.ref g),some (.ref ah),some (.ref rw'),some (.ref mo),some (.int bg),some (tgV tg),some (.int ((Ma.num b ds:Nat):Int)),v7,some (.int ((b ^ (r.length+ps2.sum):Nat):Int)),some (.ref sx),none,none,none,none,none]∧Same H H'∧H' sx=some (.lst (ones.map V.int))∧ones.length≤3000∧(ones.map FF).sum=Mu.blkV b (Ma.num b ds) r bg tg ps2 ws2,?_,?_⟩
  ·cases tg with
   | none =>
    refine ⟨_,rfl,rfl,_,rfl,iteNS rfl ⟨sa,h.map fun q=>bg+q.1,rfl,s1,u1,by simp;omega,?_⟩⟩
    rw [List.map_map,hFF]
    exact Mu.sum_none b0 W.wl R
   | some t =>
    refine ⟨_,rfl,rfl,_,rfl,ite2 (fun _=>?_) (fun z=>absurd (by simp) z)⟩
    refine ⟨_,rfl,sz (by simp),fun sb hsb=>⟨sb,[t],rfl,s1.trans (same_upd hsb),upd_same,by simp,?_⟩⟩
    rw [hFF]
    simp only [List.map_cons,List.map_nil,List.sum_cons,List.sum_nil,Int.add_zero]
    exact Mu.sum_some b0 W.wl R
  rintro σ H2 ⟨sx,ones,rfl,s2,hsx,hol,heq⟩
  refine ⟨_,rfl,sx,rfl,⟨_,SqL.of hsx⟩,for_list (K:=K) (a:=sx) (xs:=ones.map V.int) (fun i σ H'=>∃ (v11 v12 v13 v14:Option V),σ=[some (.ref g),some (.ref ah),some (.ref rw'),some (.ref mo),some (.int bg),some (tgV tg),some (.int ((Ma.num b ds:Nat):Int)),v7,some (.int ((b ^ (r.length+ps2.sum):Nat):Int)),some (.ref sx),some (.int ((ones.take i).map FF).sum),v11,v12,v13,v14]∧Same H2 H') ⟨none,none,none,none,rfl,Same.refl _⟩ (fun i σ H' _ h=>by obtain ⟨_,_,_,_,_,z⟩:=h;exact SqL.of (z _ _ hsx)) ?_ ?_⟩
  ·rintro i x σ H3 hx ⟨v11,v12,v13,v14,rfl,s3⟩
   obtain ⟨one,hone,rfl⟩:=intV_at hx
   have S3:=s2.trans s3
   intro fp hfp
   have s4:=same_upd (o:=.dK []) hfp
   have u4:(upd H3 fp (.dK [])) fp=some (.dK []):=upd_same
   have hfpH:H fp=none:=S3.free hfp
   generalize upd H3 fp (.dK [])=H4 at s4 u4⊢
   have S4:=S3.trans s4
   refine ⟨_,rfl,_,rfl,rw',_,0,_,rfl,rfl,SqL.of (S4 _ _ W.rw),rfl,r0,_,0,_,rfl,rfl,SqL.of (S4 _ _ W.r0),atI_nat (j:=0) rfl,own,rfl,.inl ⟨kvs,.inl (S4 _ _ hown)⟩,_,rfl,_,rfl,_,_,rfl,rfl,sz (by simp),fun z1 hz1=>?_⟩
   have s5:=same_upd (o:=.lst [.int 0,.int 0]) hz1
   have u5:(upd H4 z1 (.lst [.int 0,.int 0])) z1=some (.lst [.int 0,.int 0]):=upd_same
   generalize upd H4 z1 (.lst [.int 0,.int 0])=H5 at s5 u5⊢
   have S5:=S4.trans s5
   have pl5:=pl.keep S5
   have key:∃ x,(valV kvs (Sum.inl (one - bg))).getD (.ref z1)=.ref x∧H5 x=some (.lst [.int (Mu.gT h (one - bg)).1,.int (Mu.gT h (one - bg)).2]):=by
    unfold Mu.gT
    rcases PL.val (one - bg) pl5 with ⟨e1,e2⟩ | ⟨m,x,e1,e2,e3⟩
    ·rw [e1,e2];exact ⟨z1,rfl,u5⟩
    ·rw [e1,e2];exact ⟨x,rfl,e3⟩
   obtain ⟨x,ex,hx5⟩:=key
   refine ⟨valV kvs (Sum.inl (one - bg)),.inl ⟨kvs,Sum.inl (one - bg),.inl (S5 _ _ hown),rfl,rfl⟩,?_⟩
   rw [ex]
   refine ⟨s5 _ _ u4,[(Sum.inl one,.ref x)],rfl,Nat.succ_le_succ (Nat.zero_le _),?_⟩
   have nxf:x≠fp:=fun z=>by rw [z,s5 _ _ u4] at hx5;cases hx5
   have s6:Same H (upd H5 fp (.dK (mergeK [] [(Sum.inl one,.ref x)]))):=same_upd2 S5 hfpH
   have t6:Same H3 (upd H5 fp (.dK (mergeK [] [(Sum.inl one,.ref x)]))):=same_upd2 (s4.trans s5) hfp
   have u6:(upd H5 fp (.dK (mergeK [] [(Sum.inl one,.ref x)]))) fp=some (.dK [(Sum.inl one,.ref x)]):=upd_same
   have x6:(upd H5 fp (.dK (mergeK [] [(Sum.inl one,.ref x)]))) x=some (.lst [.int (Mu.gT h (one - bg)).1,.int (Mu.gT h (one - bg)).2]):=by rw [upd_ne nxf];exact hx5
   generalize upd H5 fp (.dK (mergeK [] [(Sum.inl one,.ref x)]))=H6 at s6 t6 u6 x6⊢
   -- behind
   refine ⟨_,rfl,sz (by simp),fun l1 hl1=>?_⟩
   have s7:=same_upd (o:=.lst [.ref fp]) hl1
   have u7:(upd H6 l1 (.lst [.ref fp])) l1=_:=upd_same
   generalize upd H6 l1 (.lst [.ref fp])=H7 at s7 u7⊢
   have S7:=s6.trans s7
   refine ⟨_,rfl,rw',_,0,_,rfl,rfl,SqL.of (S7 _ _ W.rw),rfl,_,rfl,r0,_,rfl,SqL.of (S7 _ _ W.r0),fun l2 hl2=>?_⟩
   rw [cut_1]
   have s8:=same_upd (o:=.lst (whole.map V.ref)) hl2
   have u8:(upd H7 l2 (.lst (whole.map V.ref))) l2=_:=upd_same
   generalize upd H7 l2 (.lst (whole.map V.ref))=H8 at s8 u8⊢
   have hwl:whole.length≤4:=by rw [Paired.length W.whole,Ma.cuts_len];exact W.l4
   refine ⟨l1,l2,_,_,rfl,rfl,s8 _ _ u7,u8,sz (by simp;omega),fun l3 hl3=>?_⟩
   have s9:=same_upd (o:=.lst ([V.ref fp]++whole.map V.ref)) hl3
   have u9:(upd H8 l3 (.lst ([V.ref fp]++whole.map V.ref))) l3=some (.lst ((fp::whole).map V.ref)):=upd_same
   generalize upd H8 l3 (.lst ([V.ref fp]++whole.map V.ref))=H9 at s9 u9⊢
   have T9:=s7.trans (s8.trans s9)
   have S9:=s6.trans T9
   have wh9:=whole_keep W.whole S9
   have gin:=RepA.gt R b16 W.r6 (one - bg)
   have hpw:b ^ r.length≤16 ^ 6:=Nat.le_trans (Nat.pow_le_pow_left b16 _) (Nat.pow_le_pow_right (by decide) W.r6)
   have h16:(16:Nat) ^ 6=16777216:=by decide
   refine ⟨_,rfl,rw',_,1,_,rfl,rfl,SqL.of (S9 _ _ W.rw),rfl,_,rfl,l3,r1,fp::whole,(Mu.gT h (one - bg),((b ^ r.length:Nat):Int))::Mu.lst b (Ma.cuts ps2 ws2) one,one,rfl,u9,?_,?_,?_,fun bp H10 hbp s10 hbp10=>?_⟩
   ·rw [S9 _ _ W.r1]
    unfold Mu.lst
    rw [List.map_cons,List.map_map]
    rfl
   ·refine .cons ⟨_,[(one,(Mu.gT h (one - bg)).1,(Mu.gT h (one - bg)).2)],.inl (T9 _ _ u6),.cons ⟨rfl,x,rfl,T9 _ _ x6⟩ .nil,?_⟩ (tells_all wh9)
    unfold Mu.gT
    rw [Mu.look_hitT]
    rfl
   ·intro q hq
    rcases List.mem_cons.mp hq with rfl | hq
    ·exact ⟨gin.1,gin.2,by simp only;omega,by simp only;omega⟩
    ·exact tells_in b16 wh9 W.p6 q hq
   refine ⟨bp,_,rfl,SqL.of hbp10,rfl,_,_,rfl,_,_,rfl,rfl,?_⟩
   have bb:=Mu.bh_bound b0 W.wl (Mu.gT h (one - bg)) ((b ^ r.length:Nat):Int) one gin.1
   have hp2:b ^ ps2.sum≤79228162514264337593543950336:=pow_big b16 (by have:=W.ln;omega)
   have hp3:b ^ (r.length+ps2.sum)≤79228162514264337593543950336:=pow_big b16 (by have:=W.ln;omega)
   have hX:=eX ds.length (Nat.le_refl _)
   rw [List.take_length] at hX
   have big:(1329227995784915872903807060280344576:Nat)<2 ^ 200:=by decide
   have hXB:Ma.num b ds*b ^ (r.length+ps2.sum)≤79228162514264337593543950336*79228162514264337593543950336:=Nat.mul_le_mul hX hp3
   have big2:(79228162514264337593543950336*79228162514264337593543950336:Nat)<2 ^ 200:=by decide
   refine ⟨_,rfl,_,rfl,_,rfl,_,_,rfl,rfl,⟨?_,?_⟩,_,rfl,_,_,rfl,rfl,⟨?_,?_⟩,_,_,rfl,rfl,_,rfl,_,_,rfl,rfl,some (.int one),some (.ref fp),some (.int (Mu.bh ((Mu.gT h (one - bg),((b ^ r.length:Nat):Int))::Mu.lst b (Ma.cuts ps2 ws2) one) (1,0)).1),some (.int (Mu.bh ((Mu.gT h (one - bg),((b ^ r.length:Nat):Int))::Mu.lst b (Ma.cuts ps2 ws2) one) (1,0)).2),?_,s3.trans (t6.trans (T9.trans s10))⟩
   ·show ((Ma.num b ds:Nat):Int).natAbs<2 ^ 200
    rw [Int.natAbs_natCast]
    omega
   ·show ((b ^ (r.length+ps2.sum):Nat):Int).natAbs<2 ^ 200
    rw [Int.natAbs_natCast]
    omega
   ·show (((Ma.num b ds:Nat):Int)*((b ^ (r.length+ps2.sum):Nat):Int)).natAbs<2 ^ 200
    rw [← Int.natCast_mul,Int.natAbs_natCast]
    omega
   ·show (Mu.bh ((Mu.gT h (one - bg),((b ^ r.length:Nat):Int))::Mu.lst b (Ma.cuts ps2 ws2) one) (1,0)).1.natAbs<2 ^ 200
    omega
   ·have e:(((ones.take (i+1)).map FF).sum)=((ones.take i).map FF).sum+((Ma.num b ds:Nat):Int)*((b ^ (r.length+ps2.sum):Nat):Int)*(Mu.bh ((Mu.gT h (one - bg),((b ^ r.length:Nat):Int))::Mu.lst b (Ma.cuts ps2 ws2) one) (1,0)).1+(Mu.bh ((Mu.gT h (one - bg),((b ^ r.length:Nat):Int))::Mu.lst b (Ma.cuts ps2 ws2) one) (1,0)).2:=by
     rw [List.take_add_one,hone,List.map_append,List.sum_append,hFF]
     simp only [Option.toList_some,List.map_cons,List.map_nil,List.sum_cons,List.sum_nil,Int.add_zero]
     unfold Mu.Fone
     rw [Int.natCast_mul]
     omega
    rw [e]
    rfl
  ·rintro σ H3 ⟨v11,v12,v13,v14,rfl,s3⟩
   rw [List.length_map,List.take_length,heq]
   exact ⟨_,rfl,k H3 (s2.trans s3)⟩
end
end Hv
namespace Mu
open Me Mg
theorem div_split{b n k:Nat}:n / b ^ k=n / b ^ (k+1)*b+n / b ^ k % b:=by
 rw [Nat.pow_succ,← Nat.div_div_eq_div_mul,Nat.mul_comm]
 exact (Nat.div_add_mod _ _).symm
theorem pre_split{b n k i:Nat}:n / b ^ k=n / b ^ (k+i)*b ^ i+n / b ^ k % b ^ i:=by
 rw [Nat.pow_add,← Nat.div_div_eq_div_mul,Nat.mul_comm]
 exact (Nat.div_add_mod _ _).symm
theorem sprd_all{v:List Int}(hv:0<v.length):sprd v=0↔∃ t,∀ x∈v,x=t:=by
 cases v with
 | nil=>simp at hv
 | cons x v =>
  rw [sprd_cons]
  constructor
  ·intro h
   refine ⟨x,fun y hy=>?_⟩
   rcases List.mem_cons.mp hy with e | hy
   ·exact e
   ·exact h y hy
  ·rintro ⟨t,h⟩ y hy
   rw [h y (List.mem_cons_of_mem _ hy),h x List.mem_cons_self]
noncomputable def Ctx(b u:Nat)(ps1:List Nat)(ws:List Int)(tg:Option Int):Prop:=(tg=none∧ps1=[])∨∃ t,tg=some t∧ps1≠[]∧∀ v∈sumsN b u ps1 (ws.take ps1.sum),v=t
theorem ev_blk{b:Nat}(hb:0<b){ps1 ps2:List Nat}{p u v0:Nat}{ws r1 r row:List Int}{tg:Option Int}(hw:ws.length=ps1.sum+(p+ps2.sum))(hrow:(ws.drop ps1.sum).take p=r1++r)(hu:u<b ^ ps1.sum)(hv:v0<b ^ r1.length)(ctx:Ctx b u ps1 ws tg)
  (h0:(Ma.cuts (ps1++p::ps2) ws)[0]?=some row) {w z:Nat} (hw':w<b ^ r.length) (hz:z<b ^ ps2.sum) :
  (chainC b row ((Ma.cuts (ps1++p::ps2) ws).drop 1)).2 ((u*b ^ r1.length+v0)*b ^ (r.length+ps2.sum)+(w*b ^ ps2.sum+z))=if selB tg (ws1 b v0 r1+ws1 b w r)=true then allS b ps2 (ws.drop (ps1.sum+p)) (ws1 b v0 r1+ws1 b w r) z else 0:=by
 have hp:p=r1.length+r.length:=by
  have:=congrArg List.length hrow
  rw [List.length_take,List.length_drop,List.length_append] at this
  omega
 have hvw:v0*b ^ r.length+w<b ^ p:=by
  rw [hp,Nat.pow_add]
  have:(v0+1)*b ^ r.length≤b ^ r1.length*b ^ r.length:=Nat.mul_le_mul_right _ hv
  rw [Nat.add_mul] at this
  omega
 have hy:(v0*b ^ r.length+w)*b ^ ps2.sum+z<b ^ (p::ps2).sum:=by
  rw [List.sum_cons,Nat.pow_add]
  have:(v0*b ^ r.length+w+1)*b ^ ps2.sum≤b ^ p*b ^ ps2.sum:=Nat.mul_le_mul_right _ hvw
  rw [Nat.add_mul] at this
  omega
 have em:(u*b ^ r1.length+v0)*b ^ (r.length+ps2.sum)+(w*b ^ ps2.sum+z)=u*b ^ (p::ps2).sum+((v0*b ^ r.length+w)*b ^ ps2.sum+z):=by
  rw [List.sum_cons,hp,Nat.pow_add,Nat.pow_add,Nat.pow_add]
  generalize b ^ r1.length=A
  generalize b ^ r.length=B
  generalize b ^ ps2.sum=C
  grind
 have hsum:(ps1++p::ps2).sum=ps1.sum+(p+ps2.sum):=by rw [List.sum_append,List.sum_cons]
 have hlt:u*b ^ (p::ps2).sum+((v0*b ^ r.length+w)*b ^ ps2.sum+z)<b ^ (ps1++p::ps2).sum:=by
  rw [List.sum_append,Nat.pow_add]
  have:(u+1)*b ^ (p::ps2).sum≤b ^ ps1.sum*b ^ (p::ps2).sum:=Nat.mul_le_mul_right _ hu
  rw [Nat.add_mul] at this
  omega
 rw [em,chain_ev hb (by rw [hsum];exact hw) h0 hlt,sums_app hb ps1 (p::ps2) ws u _ hu hy (by rw [List.sum_cons];exact hw),sums_cons hb hz (by rw [List.length_drop];omega),hrow,ws1_parts hb hw',List.drop_drop]
 unfold allS
 generalize ws1 b v0 r1+ws1 b w r=x
 rcases ctx with ⟨rfl,rfl⟩ | ⟨t,rfl,hne,hall⟩
 ·have e:sumsN b u [] (ws.take ([]:List Nat).sum)=[]:=rfl
  rw [e,List.nil_append]
  simp only [selB,if_true]
  by_cases h:∀ v∈sumsN b z ps2 (ws.drop (([]:List Nat).sum+p)),v=x
  ·rw [if_pos h,if_pos ((sprd_cons _ _).mpr h)]
  ·rw [if_neg h,if_neg fun z=>h ((sprd_cons _ _).mp z)]
 ·have hl:0<(sumsN b u ps1 (ws.take ps1.sum)).length:=by
   rw [show (sumsN b u ps1 (ws.take ps1.sum)).length=ps1.length from Ma.psums_len _ _]
   exact List.length_pos_iff.mpr hne
  have key:sprd (sumsN b u ps1 (ws.take ps1.sum)++x::sumsN b z ps2 (ws.drop (ps1.sum+p)))=0↔x=t∧∀ v∈sumsN b z ps2 (ws.drop (ps1.sum+p)),v=t:=by
   rw [sprd_all (by rw [List.length_append];omega)]
   constructor
   ·rintro ⟨y,hy'⟩
    have e1:=hy' _ (List.mem_append_left _ (List.getElem_mem hl))
    have e2:=hall _ (List.getElem_mem hl)
    have e3:y=t:=e1.symm.trans e2
    subst e3
    exact ⟨hy' _ (List.mem_append_right _ List.mem_cons_self),fun v hv=>hy' _ (List.mem_append_right _ (List.mem_cons_of_mem _ hv))⟩
   ·rintro ⟨rfl,h2⟩
    refine ⟨x,fun y hy'=>?_⟩
    rcases List.mem_append.mp hy' with hy' | hy'
    ·exact hall y hy'
    ·rcases List.mem_cons.mp hy' with e | hy'
     ·exact e
     ·exact h2 y hy'
  unfold selB
  by_cases h1:x=t
  ·subst h1
   simp only [decide_true,if_true]
   by_cases h2:∀ v∈sumsN b z ps2 (ws.drop (ps1.sum+p)),v=x
   ·rw [if_pos h2,if_pos (key.mpr ⟨rfl,h2⟩)]
   ·rw [if_neg h2,if_neg fun z=>h2 (key.mp z).2]
  ·rw [if_neg fun z=>h1 (key.mp z).1,if_neg (by simp [h1])]
theorem ev_stop{b:Nat}(hb:0<b){ps1 ps2:List Nat}{u y:Nat}{ws row:List Int}{x t:Int}(hw:ws.length=ps1.sum+ps2.sum)(hu:u<b ^ ps1.sum)(hy:y<b ^ ps2.sum)(hx:x∈sumsN b u ps1 (ws.take ps1.sum))(ht:t∈sumsN b u ps1 (ws.take ps1.sum))(hne:x≠t)
  (h0:(Ma.cuts (ps1++ps2) ws)[0]?=some row):(chainC b row ((Ma.cuts (ps1++ps2) ws).drop 1)).2 (u*b ^ ps2.sum+y)=0:=by
 have hlt:u*b ^ ps2.sum+y<b ^ (ps1++ps2).sum:=by
  rw [List.sum_append,Nat.pow_add]
  have:(u+1)*b ^ ps2.sum≤b ^ ps1.sum*b ^ ps2.sum:=Nat.mul_le_mul_right _ hu
  rw [Nat.add_mul] at this
  omega
 rw [chain_ev hb (by rw [List.sum_append];exact hw) h0 hlt,sums_app hb ps1 ps2 ws u y hu hy hw,if_neg]
 intro z
 rw [sprd_all (by rw [List.length_append];have:=List.length_pos_of_mem hx;omega)] at z
 obtain ⟨q,hq⟩:=z
 have e1:=hq x (List.mem_append_left _ hx)
 have e2:=hq t (List.mem_append_left _ ht)
 exact hne (e1.trans e2.symm)
theorem sums_snoc{b:Nat}(hb:0<b){ps1:List Nat}{p u v:Nat}{ws:List Int}(hu:u<b ^ ps1.sum)(hv:v<b ^ p)(hw:ps1.sum+p≤ws.length):sumsN b (u*b ^ p+v) (ps1++[p]) (ws.take (ps1.sum+p))=sumsN b u ps1 (ws.take ps1.sum)++[ws1 b v ((ws.drop ps1.sum).take p)]:=by
 have hs:[p].sum=p:=by simp
 have:=sums_app hb ps1 [p] (ws.take (ps1.sum+p)) u v hu (by rw [hs];exact hv) (by rw [List.length_take,hs];omega)
 rw [hs] at this
 rw [this,List.take_take,Nat.min_eq_left (by omega),List.drop_take]
 congr 1
 have e0:ps1.sum+p - ps1.sum=p:=by omega
 rw [e0]
 have hz:(0:Nat)<b ^ ([]:List Nat).sum:=by simp
 have e1:=sums_cons (b:=b) (d:=v) (m:=0) (p:=p) (ps:=[]) (ws:=(ws.drop ps1.sum).take p) hb hz (by rw [List.length_take,List.length_drop];simp;omega)
 have e2:v*b ^ ([]:List Nat).sum+0=v:=by simp
 rw [e2] at e1
 rw [e1,List.take_take,Nat.min_self]
 rfl
end Mu
namespace Hv
open PySem L2
theorem off_refs{H:Hp}{rl y:Addr}{ds:List Addr}{x z:Int}(hrl:H rl=some (.lst (ds.map V.ref)))(e:H y=some (.lst [.int x,.int z])):y≠rl:=fun q=>by
 rw [q,hrl] at e
 have e':=Option.some.inj e
 injection e' with e'
 cases ds with
 | nil=>cases e'
 | cons a r=>cases e'
theorem DRep.upd{H:Hp}{b:Nat}{rl d:Addr}{ds:List Addr}{row:List Int}{o:HO}(h:DRep H b d row)(hrl:H rl=some (.lst (ds.map V.ref))):DRep (L2.upd H rl o) b d row:=by
 obtain ⟨kvs,g,m,a1,a2,a3,a4⟩:=h
 refine ⟨kvs,g,m,?_,a2.lsts fun t x y e=>?_,a3,a4⟩
 ·rw [upd_ne fun q=>by rw [q,hrl] at a1;cases a1];exact a1
 ·rw [upd_ne (off_refs hrl e)];exact e
theorem TellsAt.frz{H H':Hp}{one:Int}{r d0:Addr}{o:Obj}{kv:List (Key×V)}{q:(Int×Int)×Int}(h:TellsAt H one r q)(kp:Kp [d0] H H')(hd:H d0=some (.dK kv))(hf:H' d0=some (.frz o (.dK kv))):TellsAt H' one r q:=by
 obtain ⟨kvs,g,a1,a2,a3⟩:=h
 refine ⟨kvs,g,?_,a2.kp kp hd (fun x y z=>nomatch z),a3⟩
 by_cases hr:r=d0
 ·subst hr
  rcases a1 with a1 | ⟨o',a1⟩
  ·rw [hd] at a1;cases a1;exact .inr ⟨o,hf⟩
  ·rw [hd] at a1;cases a1
 ·rcases a1 with a1 | ⟨o',a1⟩
  ·exact .inl (kp _ _ a1 (by simpa using hr))
  ·exact .inr ⟨o',kp _ _ a1 (by simpa using hr)⟩
theorem cut_ints{ws:List Int}{A p:Nat}:cutV (ws.map V.int) (some ((A:Nat):Int)) (some (((A:Nat):Int)+((p:Nat):Int)))=((ws.drop A).take p).map V.int:=by
 rw [cut_mid,List.map_take,List.map_drop]
section
variable{P:Program}{w:World}{K:PySem.W.Frag}{mg:Str→Option Value}{base:Heap}
noncomputable abbrev nsAll:List Str:=["frame","base","parts","weights","rows","begin","size","powers"]
theorem scAll:FnScope nsAll ["frame"] (defScope sLawSumOfAll):=⟨rfl,rfl,rfl,by decide +kernel,rfl,by decide +kernel,by decide +kernel⟩
theorem ok_sumall{f:Addr}{fd:FuncData}(F:Fun K "_law_sum_of_all" "_law_sum_of_all" sLawSumOfAll f fd)(T:Txt mg)(DT:Def P w K mg base 1 "_law_tails" ["base","weights"] spTailsL)(DP:Def P w K mg base 1 "_law_power" ["base","many"] spPowL)(DB:Def P w K mg base 1 "_law_behind" ["rows","powers","one"] spBehindL):FnOk P w K mg base CX0 2 f fd ["frame"] spSumEven:=by
 refine F.ok scAll (fun vs H Q E h=>?_) (fun cdv A outer s H vs Q E hr h=>?_)
 ·obtain ⟨g,A,c,b,ps,ws,rfl,_⟩:=h;rfl
 ·obtain ⟨g,a,c,b,ps,ws,rfl,G,k⟩:=h
  have nd:=scAll.nd
  have ok:=G.ok
  have b2:=ok.b2
  have b16:=ok.b16
  have b0:0<b:=by omega
  have hsum:=ok.sum
  have l4:=ok.l4
  have l2:=ok.l2
  refine ⟨_,pss_cons (ps_asg (pv 0) (pg_tup rfl (pgs_cons (pg_name (i:=1) nd rfl (Or.inr rfl)) (pgs_cons (pg_name (i:=2) nd rfl (Or.inl rfl)) (pgs_cons (pg_name (i:=3) nd rfl (Or.inl rfl)) pgs_nil)))))
   (pss_cons (ps_set (i:=4) nd rfl (Or.inr rfl) (pe_lst pa_nil))
   (pss_cons (ps_set (i:=5) nd rfl (Or.inl rfl) pe_int)
   (pss_cons (ps_for PassesOwn.never rfl (pi_list (pv 2)) (pg_name (i:=6) nd rfl (Or.inl rfl))
    (pss_cons (ps_expr (pe_bm PySem.F.plainAttrs_list PySem.F.slot_list_append PySem.F.type_list_append mt_append (pv 4) (pa_cons (ixl (pe_fn DT hr (by rfl) (pa_cons (pv 1) (pa_cons (pe_slice sl_list (pv 3) (po_some (pv 5)) (po_some (pe_op op_add (pv 5) (pv 6)))) pa_nil))) (pe_un un_neg pe_int)) pa_nil)))
    (pss_one (ps_set (i:=5) nd rfl (Or.inl rfl) (pe_op op_add (pv 5) (pv 6))))))
   (pss_cons (ps_set (i:=7) nd rfl (Or.inr rfl) (pe_cmp1 (defScope sLawSumOfAll) nsAll ["base"] [1] rfl (pi_list (pv 2)) (fun cl C s H fp=>pf_nil) (fun cl C s H fp=>pe_fn DP hr (by rfl) (pa_cons (pv 1) (pa_cons (pv 0) pa_nil))) (by decide +kernel)))
   (pss_one (ps_ret (pe_callB (call_sumA rfl) (by rfl) T.sum boot_sum (pa_cons (pe_cmp1 (defScope sLawSumOfAll) nsAll ["rows","powers"] [4,7] rfl (pi_dict (ixl (pv 4) pe_int)) (fun cl C s H fp=>pf_nil) (fun cl C s H fp=>ixlK K rfl (pe_fn DB hr (by rfl) (pa_cons (pv 1) (pa_cons (pv 2) (pa_cons (pv 0) pa_nil)))) pe_int) (by decide +kernel)) pa_nil)))))))),?_⟩
  obtain ⟨row0,hrow0⟩:∃ row0,(Ma.cuts ps ws)[0]?=some row0:=⟨_,List.getElem?_eq_getElem (by rw [Ma.cuts_len];omega)⟩
  refine ⟨_,rfl,g,_,rfl,SqT.of G.tp,rfl,_,_,rfl,_,_,rfl,_,_,rfl,rfl,?_⟩
  refine ⟨sz (by simp),fun rl hrl=>?_⟩
  have s1:=same_upd (o:=.lst []) hrl
  have u1:(upd H rl (.lst [])) rl=some (.lst (([]:List Addr).map V.ref)):=upd_same
  generalize upd H rl (.lst [])=H1 at s1 u1⊢
  have G1:=G.keep s1
  have nar:a≠rl:=ne_of_none G.hp hrl
  have ncr:c≠rl:=ne_of_none G.hw hrl
  refine ⟨_,rfl,a,rfl,⟨_,SqL.of G1.hp⟩,for_list (K:=K) (a:=a) (xs:=natV ps) (fun i σ H'=>∃ (ds:List Addr) (v6:Option V),σ=[some (.ref g),some (.int b),some (.ref a),some (.ref c),some (.ref rl),some (.int (((ps.take i).sum:Nat):Int)),v6,none]∧Kp [rl] H1 H'∧H' rl=some (.lst (ds.map V.ref))∧Paired (DRep H' b) ds ((Ma.cuts ps ws).take i)∧∀ d∈ds,H d=none) ⟨[],none,rfl,Kp.refl,u1,.nil,fun d hd=>by simp at hd⟩ (fun i σ H' _ h=>by obtain ⟨_,_,_,z,_⟩:=h;exact SqL.of (z _ _ G1.hp (by simpa using nar))) ?_ ?_⟩
  ·rintro i x σ H2 hx ⟨ds,v6,rfl,kp2,rl2,PD2,nw2⟩
   obtain ⟨p,hp,rfl⟩:=natV_at hx
   have hrow:=Ma.cuts_get ps ws i p hp
   have hp6:=ok.pr p (List.mem_of_getElem? hp)
   have hA:(ps.take i).sum+p≤ps.sum:=by
    have h1:(ps.take (i+1)).sum=(ps.take i).sum+p:=by rw [List.take_add_one,hp];simp
    have h2:=congrArg List.sum (List.take_append_drop (i+1) ps)
    rw [List.sum_append] at h2
    omega
   have hrl':((ws.drop (ps.take i).sum).take p).length=p:=by rw [List.length_take,List.length_drop,ok.wl];omega
   have hwr:∀ x∈(ws.drop (ps.take i).sum).take p,-9≤x∧x≤9:=fun x hx=>ok.wr x (List.mem_of_mem_drop (List.mem_of_mem_take hx))
   have hil:i<ps.length:=(List.getElem?_eq_some_iff.mp hp).1
   have hdl:ds.length=i:=by rw [Paired.length PD2,List.length_take,Ma.cuts_len];omega
   refine ⟨_,rfl,.inl ⟨rfl,_,SqL.of rl2⟩,_,rfl,_,rfl,_,rfl,_,rfl,_,rfl,_,rfl,_,_,rfl,rfl,_,rfl,c,_,rfl,SqL.of (kp2 _ _ G1.hw (by simpa using ncr)),fun sl hsl=>?_⟩
   rw [show (upd H2 sl (.lst (cutV (ws.map V.int) (some (((ps.take i).sum:Nat):Int)) (some ((((ps.take i).sum:Nat):Int)+((p:Nat):Int))))))=upd H2 sl (.lst (((ws.drop (ps.take i).sum).take p).map V.int)) from by rw [cut_ints]]
   generalize (ws.drop (ps.take i).sum).take p=row at hrow hrl' hwr⊢
   have s3:=same_upd (o:=.lst (row.map V.int)) hsl
   have u3:(upd H2 sl (.lst (row.map V.int))) sl=_:=upd_same
   generalize upd H2 sl (.lst (row.map V.int))=H3 at s3 u3⊢
   refine ⟨b,sl,row,rfl,u3,b16,hwr,by omega,fun tp ts H4 htp s4 tp4 tlen tnw TL=>?_⟩
   have T4:=s3.trans s4
   obtain ⟨d,hd⟩:∃ d,ts[row.length]?=some d:=⟨_,List.getElem?_eq_getElem (by omega)⟩
   obtain ⟨kvs,h,d1,d2,d3⟩:=TL row.length d hd
   rw [Nat.sub_self,List.drop_zero] at d3
   have rl4:=T4 _ _ rl2
   have DD:DRep H4 b d row:=⟨kvs,h,135*row.length,d1,d2,by push_cast;exact d3,by omega⟩
   refine ⟨_,rfl,r_ixl tp4 (at_lastR tlen hd) ⟨rl,_,_,rfl,rfl,rl4,szl (by rw [List.length_map];omega),?_⟩⟩
   refine ⟨_,rfl,_,rfl,_,_,rfl,rfl,ds++[d],some (.int p),?_,kp_upd (fun y ob e n=>T4 _ _ (kp2 y ob e n)) (.inl (by simp)),by rw [upd_same,List.map_append];rfl,?_,?_⟩
   ·have e:(((ps.take (i+1)).sum:Nat):Int)=(((ps.take i).sum:Nat):Int)+((p:Nat):Int):=by rw [List.take_add_one,hp];simp
    rw [e]
    rfl
   ·rw [List.take_add_one,hrow]
    exact Paired.snoc (L2.Paired.mapP PD2 fun _ _ e=>(e.keep T4).upd rl4) (DD.upd rl4)
   ·intro d' hd'
    rcases List.mem_append.mp hd' with hd' | hd'
    ·exact nw2 d' hd'
    ·rw [List.mem_singleton.mp hd']
     have S2':Same H H2:=fun y ob e=>kp2 _ _ (s1 _ _ e) (by have:=ne_of_none e hrl;simpa using this)
     exact S2'.free (s3.free (tnw d (List.mem_of_getElem? hd)))
  rintro σ H2 ⟨ds,v6,rfl,kp2,rl2,PD2,nw2⟩
  have el:(natV ps).length=(Ma.cuts ps ws).length:=by simp [natV,Ma.cuts_len]
  rw [el,List.take_length] at PD2
  have S2:Same H H2:=fun y ob e=>kp2 _ _ (s1 _ _ e) (by have:=ne_of_none e hrl;simpa using this)
  have G2:=G.keep S2
  -- powers
  refine ⟨_,rfl,a,rfl,⟨_,SqL.of G2.hp⟩,comp_list (K:=K) (a:=a) (xs:=natV ps) (fun i ys H'=>ys=(ps.take i).map (fun p=>V.int ((b ^ p:Nat):Int))∧H2=H') ⟨rfl,rfl⟩ (fun i ys H' _ q=>by rw [← q.2];exact SqL.of G2.hp) ?_ ?_⟩
  ·rintro i x ys H' hx ⟨rfl,rfl⟩
   obtain ⟨p,hp,rfl⟩:=natV_at hx
   have hp6:=ok.pr p (List.mem_of_getElem? hp)
   refine ⟨szl (by simp only [List.length_map,List.length_take];omega),_,rfl,_,rfl,b,p,rfl,b16,by omega,?_,rfl⟩
   rw [List.take_add_one,hp]
   simp
  rintro ys H' ⟨rfl,rfl⟩ pw hpw
  have el2:(natV ps).length=ps.length:=by simp [natV]
  rw [el2,List.take_length]
  have s3:=same_upd (o:=.lst (ps.map fun p=>V.int ((b ^ p:Nat):Int))) hpw
  have u3:(upd H2 pw (.lst (ps.map fun p=>V.int ((b ^ p:Nat):Int)))) pw=_:=upd_same
  generalize upd H2 pw (.lst (ps.map fun p=>V.int ((b ^ p:Nat):Int)))=H3 at s3 u3⊢
  have rl3:=s3 _ _ rl2
  have PD3:=whole_keep PD2 s3
  have S3:=S2.trans s3
  obtain ⟨p0,ps2,rfl⟩:∃ p0 ps2,ps=p0::ps2:=by
   cases ps with
   | nil=>simp at l2
   | cons p0 ps2=>exact ⟨p0,ps2,rfl⟩
  have hwl:ws.length=p0+ps2.sum:=by rw [ok.wl,List.sum_cons]
  have er0:ws.take p0=row0:=by
   rw [Ma.cuts] at hrow0
   simpa using hrow0
  have hcu:Ma.cuts (p0::ps2) ws=row0::Ma.cuts ps2 (ws.drop p0):=by rw [Ma.cuts,er0]
  have hr0l:row0.length=p0:=by rw [← er0,List.length_take];omega
  have hcl:=Me.cuts_lens (p0::ps2) ws ok.wl
  rw [hcu] at PD3
  have hlens:(Mu.lst b (row0::Ma.cuts ps2 (ws.drop p0)))=fun one=>(Mu.wg b row0 one,((b ^ row0.length:Nat):Int))::Mu.lst b (Ma.cuts ps2 (ws.drop p0)) one:=rfl
  have h6:∀ row∈row0::Ma.cuts ps2 (ws.drop p0),row.length≤6:=fun row hr=>Ma.cuts_short (fun p hp=>(ok.pr p hp).2) (by rw [hcu];exact hr)
  cases hds:ds with
  | nil=>rw [hds] at PD3;cases PD3
  | cons d0 dr =>
   subst hds
   have D0:DRep H3 b d0 row0:=by cases PD3 with | cons h _=>exact h
   obtain ⟨kvs,h,m,hd0,pl,R,hm⟩:=D0
   have hlen:=Mu.OkT.len (m:=m) R.ok
   obtain ⟨GG,hGG⟩:∃ GG:Int×Int×Int→Int,GG=fun q=>Mu.Fone b 0 row0 ps2 (ws.drop p0) (Mu.gT h (0+q.1 - 0)) (0+q.1):=⟨_,rfl⟩
   refine ⟨_,rfl,rl,_,0,_,rfl,rfl,SqL.of rl3,atI_nat (j:=0) rfl,d0,kvs,rfl,hd0,fun o=>comp_dict (fun i ys H'=>ys=((h.take i).map GG).map V.int∧Kp [d0] H3 H'∧H' d0=some (.frz o (.dK kvs))) ⟨rfl,kp_upd Kp.refl (.inl (by simp)),upd_same⟩ (fun i ys H' _ q=>q.2.2) ?_ ?_⟩
   ·rintro i kk v ys H4 hk ⟨rfl,kp4,f4⟩
    obtain ⟨q,hq,hkk,_⟩:=Paired.at pl hk
    have hkk':kk=Sum.inl q.1:=hkk
    subst hkk'
    have nrd:rl≠d0:=fun z=>by rw [z,hd0] at rl3;cases rl3
    have npd:pw≠d0:=fun z=>by rw [z,hd0] at u3;cases u3
    refine ⟨szl (by simp only [List.length_map,List.length_take];omega),_,rfl,_,rfl,_,rfl,rl,pw,d0::dr,Mu.lst b (row0::Ma.cuts ps2 (ws.drop p0)) q.1,q.1,rfl,kp4 _ _ rl3 (by simpa using nrd),?_,?_,tells_in b16 PD3 h6,fun bp H5 hbp s5 hbp5=>?_⟩
    ·rw [kp4 _ _ u3 (by simpa using npd),← hcu]
     unfold Mu.lst
     rw [List.map_map]
     have e:(p0::ps2)=(Ma.cuts (p0::ps2) ws).map List.length:=hcl.symm
     conv=>lhs;rw [e,List.map_map]
     rfl
    ·exact L2.Paired.mapP (tells_all PD3) fun _ _ t=>t.frz kp4 hd0 f4
    ·refine r_ixl hbp5 (show atI _ 1=_ from atI_nat (j:=1) rfl) ⟨?_,fun y ob e n=>s5 _ _ (kp4 y ob e n),s5 _ _ f4⟩
     rw [List.take_add_one,hq,hGG]
     have e1:(0:Int)+q.1 - 0=q.1:=by omega
     have e2:(0:Int)+q.1=q.1:=by omega
     simp only [List.map_append,Option.toList_some,List.map_cons,List.map_nil]
     congr 3
     unfold Mu.Fone
     rw [e1,e2,hlens,Mu.rep_wg R q.1]
     simp
   ·rintro ys H4 ⟨rfl,kp4,f4⟩ tl htl
    have elk:kvs.length=h.length:=PL.len pl
    rw [elk,List.take_length]
    refine ⟨tl,_,rfl,SqL.of upd_same,?_⟩
    have ev:(h.map GG).sum=evS b row0 ((Ma.cuts (p0::ps2) ws).drop 1) (b ^ (p0::ps2).sum):=by
     rw [hGG,Mu.sum_none b0 (by rw [List.length_drop];omega) R]
     unfold evS
     have hctx:Mu.Ctx b 0 [] ws none:=.inl ⟨rfl,rfl⟩
     have e3:Mg.ws1 b 0 []=0:=by simp [Mg.ws1,Ma.wts]
     have key:=Mu.blk_ns (b:=b) (X:=0) (r:=row0) (c:=0) (tg:=none) (ps:=ps2) (ws:=ws.drop p0) (g:=fun m=>(Mu.chainC b row0 ((Ma.cuts (p0::ps2) ws).drop 1)).2 m*(m:Int)) b0 fun w z hw hz=>by
      have hev:=Mu.ev_blk (ps1:=[]) (ps2:=ps2) (p:=p0) (u:=0) (v0:=0) (ws:=ws) (r1:=[]) (r:=row0) (row:=row0) (tg:=none) b0 (by simp;exact hwl) (by simpa using er0) (by simp) (by simp) hctx hrow0 hw hz
      rw [e3] at hev
      simp only [List.sum_nil,Nat.zero_add,List.nil_append,List.length_nil,Nat.pow_zero,Nat.mul_one] at hev
      rw [hev]
     rw [key,hr0l,List.sum_cons]
     simp only [Nat.zero_mul,Nat.zero_add]
    rw [ev]
    refine k row0 _ (fun y ob e=>?_) hrow0
    have e3:=S3 _ _ e
    have ny:y≠d0:=fun z=>by rw [z,nw2 d0 (by simp)] at e;cases e
    have e4:=kp4 _ _ e3 (by simpa using ny)
    rw [upd_ne (ne_of_none e4 htl)]
    exact e4
end
end Hv
namespace Mu
open Me Mg
noncomputable def gE(b:Nat)(row:List Int)(rows:List (List Int))(m:Nat):Int:=(chainC b row rows).2 m*(m:Int)
section
variable{b n p:Nat}{ps1 ps2:List Nat}{ws row0:List Int}{tg:Option Int}
noncomputable abbrev lft(p:Nat)(ps2:List Nat)(i:Nat):Nat:=(p - i)+ps2.sum
theorem u_lt(hb:0<b)(hn:n<b ^ (ps1++p::ps2).sum):n / b ^ (p+ps2.sum)<b ^ ps1.sum:=by
 refine Nat.div_lt_of_lt_mul ?_
 rw [← Nat.pow_add,Nat.add_comm]
 rw [List.sum_append,List.sum_cons] at hn
 exact hn
theorem inner(hb:0<b)(hn:n<b ^ (ps1++p::ps2).sum)(hw:ws.length=ps1.sum+(p+ps2.sum))(h0:(Ma.cuts (ps1++p::ps2) ws)[0]?=some row0)(ctx:Ctx b (n / b ^ (p+ps2.sum)) ps1 ws tg){i c:Nat}{row:List Int}{wt:Int}(er:(ws.drop ps1.sum).take p=row)(hi:i<p)(hc:c<b)(hwt:row[i]?=some wt) :
  ns (gE b row0 ((Ma.cuts (ps1++p::ps2) ws).drop 1)) ((n / b ^ lft p ps2 i*b+c)*b ^ lft p ps2 (i+1))+blkV b (n / b ^ lft p ps2 i*b+c) (row.drop (i+1)) (ws1 b (n / b ^ lft p ps2 i % b ^ i) (row.take i)+(c:Int)*wt) tg ps2 (ws.drop (ps1.sum+p))
   = ns (gE b row0 ((Ma.cuts (ps1++p::ps2) ws).drop 1)) ((n / b ^ lft p ps2 i*b+(c+1))*b ^ lft p ps2 (i+1)):=by
 have hrl:row.length=p:=by rw [← er,List.length_take,List.length_drop];omega
 have hr:(row.drop (i+1)).length=p - (i+1):=by rw [List.length_drop,hrl]
 have hr1:(row.take (i+1)).length=i+1:=by rw [List.length_take,hrl];omega
 obtain ⟨vi,hvi⟩:∃ vi,vi=n / b ^ lft p ps2 i % b ^ i:=⟨_,rfl⟩
 have hvl:vi<b ^ i:=by rw [hvi];exact Nat.mod_lt _ (Nat.pow_pos hb)
 have hX:n / b ^ lft p ps2 i*b+c=n / b ^ (p+ps2.sum)*b ^ (i+1)+(vi*b+c):=by
  have:=pre_split (b:=b) (n:=n) (k:=lft p ps2 i) (i:=i)
  rw [show lft p ps2 i+i=p+ps2.sum by unfold lft;omega,← hvi] at this
  rw [this,Nat.pow_succ,Nat.add_mul,Nat.mul_assoc]
  omega
 have hv0:vi*b+c<b ^ (row.take (i+1)).length:=by
  rw [hr1,Nat.pow_succ]
  have:(vi+1)*b≤b ^ i*b:=Nat.mul_le_mul_right _ hvl
  rw [Nat.add_mul] at this
  omega
 have hws:ws1 b (vi*b+c) (row.take (i+1))=ws1 b vi (row.take i)+(c:Int)*wt:=by
  rw [List.take_add_one,hwt]
  exact ws1_up b vi c (row.take i) wt hc
 rw [← hvi,← hws]
 have hB:lft p ps2 (i+1)=(row.drop (i+1)).length+ps2.sum:=by rw [hr]
 have key:=blk_ns (b:=b) (X:=n / b ^ lft p ps2 i*b+c) (r:=row.drop (i+1)) (c:=ws1 b (vi*b+c) (row.take (i+1))) (tg:=tg) (ps:=ps2) (ws:=ws.drop (ps1.sum+p)) (g:=gE b row0 ((Ma.cuts (ps1++p::ps2) ws).drop 1)) hb fun w z hw' hz=>by
  have hev:=ev_blk (ps1:=ps1) (ps2:=ps2) (p:=p) (u:=n / b ^ (p+ps2.sum)) (v0:=vi*b+c) (ws:=ws) (r1:=row.take (i+1)) (r:=row.drop (i+1)) (row:=row0) (tg:=tg) hb hw (by rw [er];exact (List.take_append_drop _ _).symm) (u_lt hb hn) hv0 ctx h0 hw' hz
  unfold gE
  rw [hr1,← hX] at hev
  rw [hev]
 rw [key,hB,← Nat.add_assoc,Nat.add_mul (n / b ^ lft p ps2 i*b+c) 1,Nat.one_mul,ns_add]
theorem inner_end(hi:i<p):n / b ^ lft p ps2 i*b+n / b ^ lft p ps2 (i+1) % b=n / b ^ lft p ps2 (i+1):=by
 have:=div_split (b:=b) (n:=n) (k:=lft p ps2 (i+1))
 rw [show lft p ps2 (i+1)+1=lft p ps2 i by unfold lft;omega] at this
 exact this.symm
theorem begun_step(hb:0<b){i:Nat}{row:List Int}{wt:Int}(hi:i<p)(hwt:row[i]?=some wt):ws1 b (n / b ^ lft p ps2 i % b ^ i) (row.take i)+((n / b ^ lft p ps2 (i+1) % b:Nat):Int)*wt=ws1 b (n / b ^ lft p ps2 (i+1) % b ^ (i+1)) (row.take (i+1)):=by
 have e:n / b ^ lft p ps2 (i+1) % b ^ (i+1)=n / b ^ lft p ps2 i % b ^ i*b+n / b ^ lft p ps2 (i+1) % b:=by
  have e1:n / b ^ lft p ps2 i=n / b ^ lft p ps2 (i+1) / b:=by
   rw [Nat.div_div_eq_div_mul,← Nat.pow_succ]
   congr 2
   unfold lft
   omega
  rw [e1,Nat.pow_succ,Nat.mul_comm (b ^ i),Nat.mod_mul,Nat.mul_comm b]
  omega
 rw [e,List.take_add_one,hwt]
 exact (ws1_up b _ _ (row.take i) wt (Nat.mod_lt _ hb)).symm
theorem part_next(hb:0<b)(hn:n<b ^ (ps1++p::ps2).sum)(hw:ws.length=ps1.sum+(p+ps2.sum)){row:List Int}(er:(ws.drop ps1.sum).take p=row):sumsN b (n / b ^ ps2.sum) (ps1++[p]) (ws.take (ps1.sum+p))=sumsN b (n / b ^ (p+ps2.sum)) ps1 (ws.take ps1.sum)++[ws1 b (n / b ^ ps2.sum % b ^ p) row]:=by
 have e:=pre_split (b:=b) (n:=n) (k:=ps2.sum) (i:=p)
 rw [Nat.add_comm ps2.sum p] at e
 have:=sums_snoc (ps1:=ps1) (p:=p) (u:=n / b ^ (p+ps2.sum)) (v:=n / b ^ ps2.sum % b ^ p) (ws:=ws) hb (u_lt hb hn) (Nat.mod_lt _ (Nat.pow_pos hb)) (by omega)
 rw [← e,er] at this
 exact this
theorem ctx_next(hb:0<b)(hn:n<b ^ (ps1++p::ps2).sum)(hw:ws.length=ps1.sum+(p+ps2.sum)){row:List Int}(er:(ws.drop ps1.sum).take p=row)(ctx:Ctx b (n / b ^ (p+ps2.sum)) ps1 ws tg)(h:tg=none∨tg=some (ws1 b (n / b ^ ps2.sum % b ^ p) row)) :
  Ctx b (n / b ^ ps2.sum) (ps1++[p]) ws (some (ws1 b (n / b ^ ps2.sum % b ^ p) row)):=by
 refine .inr ⟨_,rfl,by simp,?_⟩
 have hs:(ps1++[p]).sum=ps1.sum+p:=by rw [List.sum_append];simp
 rw [hs,part_next hb hn hw er]
 intro v hv
 rcases List.mem_append.mp hv with hv | hv
 ·rcases ctx with ⟨e1,e2⟩ | ⟨t,e1,e2,e3⟩
  ·subst e2
   have e:sumsN b (n / b ^ (p+ps2.sum)) [] (ws.take ([]:List Nat).sum)=[]:=rfl
   rw [e] at hv
   simp at hv
  ·rcases h with h | h
   ·rw [e1] at h;cases h
   ·rw [e1] at h
    rw [e3 v hv]
    exact Option.some.inj h
 ·exact List.mem_singleton.mp hv
theorem stop_sum(hb:0<b)(hn:n<b ^ (ps1++p::ps2).sum)(hw:ws.length=ps1.sum+(p+ps2.sum))(h0:(Ma.cuts (ps1++p::ps2) ws)[0]?=some row0){row:List Int}(er:(ws.drop ps1.sum).take p=row){t:Int}(ctx:Ctx b (n / b ^ (p+ps2.sum)) ps1 ws (some t))(hne:t≠ws1 b (n / b ^ ps2.sum % b ^ p) row) :
  ns (gE b row0 ((Ma.cuts (ps1++p::ps2) ws).drop 1)) (n / b ^ ps2.sum*b ^ ps2.sum)=ns (gE b row0 ((Ma.cuts (ps1++p::ps2) ws).drop 1)) n:=by
 have hL0:0<b ^ ps2.sum:=Nat.pow_pos hb
 have em:n=n / b ^ ps2.sum*b ^ ps2.sum+n % b ^ ps2.sum:=by rw [Nat.mul_comm];exact (Nat.div_add_mod n _).symm
 have hcut:ps1++p::ps2=(ps1++[p])++ps2:=by simp
 have hs:(ps1++[p]).sum=ps1.sum+p:=by rw [List.sum_append];simp
 have hu:n / b ^ ps2.sum<b ^ (ps1++[p]).sum:=by
  refine Nat.div_lt_of_lt_mul ?_
  rw [← Nat.pow_add,hs]
  rw [List.sum_append,List.sum_cons] at hn
  rw [show ps2.sum+(ps1.sum+p)=ps1.sum+(p+ps2.sum) by omega]
  exact hn
 have hall:=part_next (ps2:=ps2) hb hn hw er
 have hz:∀ y,y<n % b ^ ps2.sum→gE b row0 ((Ma.cuts (ps1++p::ps2) ws).drop 1) (n / b ^ ps2.sum*b ^ ps2.sum+y)=0:=fun y hy=>by
  have hy':y<b ^ ps2.sum:=Nat.lt_trans hy (Nat.mod_lt _ hL0)
  rcases ctx with ⟨e1,e2⟩ | ⟨t',e1,e2,e3⟩
  ·cases e1
  ·cases e1
   have hl:0<(sumsN b (n / b ^ (p+ps2.sum)) ps1 (ws.take ps1.sum)).length:=by
    rw [show (sumsN b (n / b ^ (p+ps2.sum)) ps1 (ws.take ps1.sum)).length=ps1.length from Ma.psums_len _ _]
    exact List.length_pos_iff.mpr e2
   have ht:t∈sumsN b (n / b ^ ps2.sum) (ps1++[p]) (ws.take (ps1++[p]).sum):=by
    rw [hs,hall]
    refine List.mem_append_left _ ?_
    have:=e3 _ (List.getElem_mem hl)
    rw [← this]
    exact List.getElem_mem hl
   have hx:ws1 b (n / b ^ ps2.sum % b ^ p) row∈sumsN b (n / b ^ ps2.sum) (ps1++[p]) (ws.take (ps1++[p]).sum):=by
    rw [hs,hall]
    exact List.mem_append_right _ (by simp)
   have:=ev_stop (ps1:=ps1++[p]) (ps2:=ps2) (u:=n / b ^ ps2.sum) (y:=y) (ws:=ws) (row:=row0) hb (by rw [hs];omega) hu hy' ht hx hne (by rw [← hcut];exact h0)
   unfold gE
   rw [hcut,this,Int.zero_mul]
 conv=>rhs;rw [em]
 rw [ns_add,ns_congr hz,ns_zero,Int.add_zero]
end
theorem cuts_drop:∀ (k:Nat) (ps:List Nat) (ws:List Int),(Ma.cuts ps ws).drop k=Ma.cuts (ps.drop k) (ws.drop (ps.take k).sum)
 | 0,ps,ws=>by simp
 | k+1,[],ws=>by simp [Ma.cuts]
 | k+1,p::ps,ws=>by
  rw [Ma.cuts,List.drop_succ_cons,List.drop_succ_cons,List.take_succ_cons,List.sum_cons,cuts_drop k ps (ws.drop p),List.drop_drop]
end Mu
namespace Hv
open PySem L2
noncomputable def spSumBelowL:Sp:=fun vs H Q _=>∃ f A c b ps ws,∃ n:Nat,vs=[.ref f,.int n]∧FrAt H f A c b ps ws∧n<b ^ ps.sum∧∀ (row:List Int) (H':Hp),Same H H'→(Ma.cuts ps ws)[0]?=some row→Q (.int (evS b row ((Ma.cuts ps ws).drop 1) n)) H'
theorem TailsL.upd{H:Hp}{b:Nat}{rl:Addr}{ds ts:List Addr}{row:List Int}{o:HO}(h:TailsL H b ts row)(hrl:H rl=some (.lst (ds.map V.ref))):TailsL (L2.upd H rl o) b ts row:=fun i t e=>by
 obtain ⟨kvs,g,a1,a2,a3⟩:=h i t e
 refine ⟨kvs,g,?_,a2.lsts fun t x y e=>?_,a3⟩
 ·rw [upd_ne fun q=>by rw [q,hrl] at a1;cases a1];exact a1
 ·rw [upd_ne (off_refs hrl e)];exact e
noncomputable def TAt(H:Hp)(b:Nat)(tl tq:Addr)(row:List Int):Prop:=tq≠tl∧∃ ts:List Addr,H tq=some (.lst (ts.map V.ref))∧ts.length=row.length+1∧TailsL H b ts row
theorem TAt.keep{H H':Hp}{b:Nat}{tl tq:Addr}{row:List Int}(h:TAt H b tl tq row)(s:Same H H'):TAt H' b tl tq row:=let ⟨n,ts,a1,a2,a3⟩:=h;⟨n,ts,s _ _ a1,a2,a3.keep s⟩
theorem TAt.upd{H:Hp}{b:Nat}{tl tq:Addr}{ds:List Addr}{row:List Int}{o:HO}(h:TAt H b tl tq row)(hrl:H tl=some (.lst (ds.map V.ref))):TAt (L2.upd H tl o) b tl tq row:=by
 obtain ⟨n,ts,a1,a2,a3⟩:=h
 exact ⟨n,ts,by rw [upd_ne n];exact a1,a2,a3.upd hrl⟩
theorem TAt.one{H:Hp}{b:Nat}{tl tq:Addr}{row:List Int}(h:TAt H b tl tq row)(h6:row.length≤6){j:Nat}(hj:j≤row.length):∃ (ts:List Addr) (d:Addr),H tq=some (.lst (ts.map V.ref))∧ts[j]?=some d∧DRep H b d (row.drop (row.length - j)):=by
 obtain ⟨n,ts,a1,a2,a3⟩:=h
 obtain ⟨d,hd⟩:∃ d,ts[j]?=some d:=⟨_,List.getElem?_eq_getElem (by omega)⟩
 obtain ⟨kvs,g,c1,c2,c3⟩:=a3 j d hd
 exact ⟨ts,d,a1,hd,kvs,g,135*j,c1,c2,by push_cast;exact c3,by omega⟩
theorem paired_get{α β:Type}{R:α→β→Prop}:∀ {as:List α} {bs:List β},Paired R as bs→∀ {i:Nat} {b:β},bs[i]?=some b→∃ a,as[i]?=some a∧R a b
 | _,_,.cons h t,0,b,e=>by cases e;exact ⟨_,rfl,h⟩
 | _,_,.cons h t,i+1,b,e=>by
  rw [List.getElem?_cons_succ] at e
  obtain ⟨a,h1,h2⟩:=paired_get t e
  exact ⟨a,by rw [List.getElem?_cons_succ];exact h1,h2⟩
theorem cut_upto{xs:List V}{k:Nat}:cutV xs none (some (k:Int))=xs.take k:=by
 unfold cutV
 rw [HT.sIx_none,HT.sIx_nat,List.drop_zero,Nat.sub_zero]
 rcases Nat.le_total k xs.length with h | h
 ·rw [Nat.min_eq_left h]
 ·rw [Nat.min_eq_right h,List.take_of_length_le (Nat.le_refl _),List.take_of_length_le h]
section
variable{P:Program}{w:World}{K:PySem.W.Frag}{mg:Str→Option Value}{base:Heap}
noncomputable abbrev nsBel:List Str:=["frame","n","base","parts","weights","figures","tails","begin","size","found","target","part","begun","whole","powers","at","own","rows","ahead","weight","figure","more"]
theorem scBel:FnScope nsBel ["frame","n"] (defScope sLawSumBelow):=⟨rfl,rfl,rfl,by decide +kernel,rfl,by decide +kernel,by decide +kernel⟩
theorem ok_sumbelowl{f:Addr}{fd:FuncData}(F:Fun K "_law_sum_below" "_law_sum_below" sLawSumBelow f fd)(T:Txt mg)(DG:Def P w K mg base 1 "_law_figures" ["frame","n"] spFigures)(DT:Def P w K mg base 1 "_law_tails" ["base","weights"] spTailsL)(DP:Def P w K mg base 1 "_law_power" ["base","many"] spPowL)(DW:Def P w K mg base 2 "_law_with" ["frame","ahead","rows","more"] spWith):FnOk P w K mg base CX0 3 f fd ["frame","n"] spSumBelowL:=by
 refine F.ok scBel (fun vs H Q E h=>?_) (fun cdv A outer s H vs Q E hr h=>?_)
 ·obtain ⟨g,A,c,b,ps,ws,n,rfl,_⟩:=h;rfl
 ·obtain ⟨g,a,c,b,ps,ws,n,rfl,G,hn,k⟩:=h
  have nd:=scBel.nd
  have ok:=G.ok
  have b2:=ok.b2
  have b16:=ok.b16
  have b0:0<b:=by omega
  have hsum:=ok.sum
  have l4:=ok.l4
  have l2:=ok.l2
  have hr1:=hr.mono (j:=1) (by decide)
  refine ⟨_,pss_cons (ps_asg (pv 0) (pg_tup rfl (pgs_cons (pg_name (i:=2) nd rfl (Or.inr rfl)) (pgs_cons (pg_name (i:=3) nd rfl (Or.inr rfl)) (pgs_cons (pg_name (i:=4) nd rfl (Or.inl rfl)) pgs_nil)))))
   (pss_cons (ps_set (i:=5) nd rfl (Or.inl rfl) (pe_fn DG hr1 (by rfl) (pa_cons (pv 0) (pa_cons (pv 1) pa_nil))))
   (pss_cons (ps_set (i:=6) nd rfl (Or.inr rfl) (pe_lst pa_nil))
   (pss_cons (ps_set (i:=7) nd rfl (Or.inl rfl) pe_int)
   (pss_cons (ps_for PassesOwn.never rfl (pi_list (pv 3)) (pg_name (i:=8) nd rfl (Or.inl rfl))
    (pss_cons (ps_expr (pe_bm PySem.F.plainAttrs_list PySem.F.slot_list_append PySem.F.type_list_append mt_append (pv 6) (pa_cons (pe_fn DT hr1 (by rfl) (pa_cons (pv 2) (pa_cons (pe_slice sl_list (pv 4) (po_some (pv 7)) (po_some (pe_op op_add (pv 7) (pv 8)))) pa_nil))) pa_nil)))
    (pss_one (ps_set (i:=7) nd rfl (Or.inl rfl) (pe_op op_add (pv 7) (pv 8))))))
   (pss_cons (ps_set (i:=9) nd rfl (Or.inl rfl) pe_int)
   (pss_cons (ps_set (i:=10) nd rfl (Or.inl rfl) pe_non)
   (pss_cons (ps_set (i:=7) nd rfl (Or.inl rfl) pe_int)
   (pss_cons (ps_for PassesOwn.never rfl (pi_enum (by rfl) T.enum (pv 3)) (pg_tup rfl (pgs_cons (pg_name (i:=11) nd rfl (Or.inl rfl)) (pgs_cons (pg_name (i:=8) nd rfl (Or.inl rfl)) pgs_nil)))
    (pss_cons (ps_set (i:=12) nd rfl (Or.inl rfl) pe_int)
    (pss_cons (ps_cmp1 (defScope sLawSumBelow) nsBel ["tails","parts"] [6,3] (i:=13) nd rfl (Or.inl rfl) rfl (pi_range2 (by rfl) T.range (pa_cons (pe_op op_add (pv 11) pe_int) (pa_cons (lenS T.len (by rfl) (pv 3)) pa_nil))) (fun cl C s H fp=>pf_nil) (fun cl C s H fp=>ixlK K rfl (ixlK K rfl (pv 1) (pv 0)) (ixlK K rfl (pv 2) (pv 0))) (by decide +kernel) (by rfl))
    (pss_cons (ps_cmp1 (defScope sLawSumBelow) nsBel ["base","parts"] [2,3] (i:=14) nd rfl (Or.inl rfl) rfl (pi_range2 (by rfl) T.range (pa_cons (pe_op op_add (pv 11) pe_int) (pa_cons (lenS T.len (by rfl) (pv 3)) pa_nil))) (fun cl C s H fp=>pf_nil) (fun cl C s H fp=>pe_fn DP hr1 (by rfl) (pa_cons (pv 1) (pa_cons (ixlK K rfl (pv 2) (pv 0)) pa_nil))) (by decide +kernel) (by rfl))
    (pss_cons (ps_for PassesOwn.never rfl (pi_range1 (by rfl) T.range (pa_cons (pv 8) pa_nil)) (pg_name (i:=15) nd rfl (Or.inl rfl))
     (pss_cons (ps_set (i:=16) nd rfl (Or.inl rfl) (ixl (ixl (pv 6) (pv 11)) (pe_op op_sub (pe_op op_sub (pv 8) pe_int) (pv 15))))
     (pss_cons (ps_set (i:=17) nd rfl (Or.inl rfl) (pe_lst (pa_cons (pe_op op_cat (pe_lst (pa_cons (pv 16) pa_nil)) (pv 13)) (pa_cons (pe_op op_cat (pe_lst (pa_cons (pe_fn DP hr1 (by rfl) (pa_cons (pv 2) (pa_cons (pe_op op_sub (pe_op op_sub (pv 8) pe_int) (pv 15)) pa_nil))) pa_nil)) (pv 14)) pa_nil))))
     (pss_cons (ps_set (i:=18) nd rfl (Or.inl rfl) (pe_slice sl_list (pv 5) po_none (po_some (pe_op op_add (pv 7) (pv 15)))))
     (pss_cons (ps_set (i:=19) nd rfl (Or.inl rfl) (ixl (pv 4) (pe_op op_add (pv 7) (pv 15))))
     (pss_cons (ps_for PassesOwn.never rfl (pi_range1 (by rfl) T.range (pa_cons (ixl (pv 5) (pe_op op_add (pv 7) (pv 15))) pa_nil)) (pg_name (i:=20) nd rfl (Or.inl rfl))
      (pss_cons (ps_set (i:=21) nd rfl (Or.inl rfl) (pe_lst (pa_cons (pe_op op_add (pv 12) (pe_op op_mul (pv 20) (pv 19))) (pa_cons (pv 10) pa_nil))))
      (pss_one (ps_set (i:=9) nd rfl (Or.inl rfl) (pe_op op_add (pv 9) (pe_fn DW hr (by rfl) (pa_cons (pv 0) (pa_cons (pe_op op_cat (pv 18) (pe_lst (pa_cons (pv 20) pa_nil))) (pa_cons (pv 17) (pa_cons (pv 21) pa_nil))))))))))
     (pss_one (ps_set (i:=12) nd rfl (Or.inl rfl) (pe_op op_add (pv 12) (pe_op op_mul (ixl (pv 5) (pe_op op_add (pv 7) (pv 15))) (pv 19)))))))))))
    (pss_cons (ps_set (i:=7) nd rfl (Or.inl rfl) (pe_op op_add (pv 7) (pv 8)))
    (pss_cons (ps_cut (ps_if (PW.pt (pw_and (pt_cmpR op_notN (pv 10) pe_non (nomark _)) (pw_and1 (pt_cmpR op_ne (pv 10) (pv 12) (nomark _))))) (pss_one (ps_ret (pv 9))) pss_nil))
    (pss_one (ps_set (i:=10) nd rfl (Or.inl rfl) (pv 12))))))))))
   (pss_one (ps_ret (pv 9))))))))))),?_⟩
  obtain ⟨row0,hrow0⟩:∃ row0,(Ma.cuts ps ws)[0]?=some row0:=⟨_,List.getElem?_eq_getElem (by rw [Ma.cuts_len];omega)⟩
  obtain ⟨gE,hgE⟩:∃ gE,gE=Mu.gE b row0 ((Ma.cuts ps ws).drop 1):=⟨_,rfl⟩
  have hev:evS b row0 ((Ma.cuts ps ws).drop 1) n=Mg.ns gE n:=by rw [hgE];rfl
  refine ⟨_,rfl,g,_,rfl,SqT.of G.tp,rfl,_,_,rfl,_,_,rfl,_,_,rfl,rfl,?_⟩
  refine ⟨_,rfl,_,rfl,g,a,c,b,ps,ws,n,rfl,G,hn,fun fl H0 hfl s0 fl0=>?_⟩
  obtain ⟨fg,hfg⟩:∃ fg,fg=Ma.dws b n ps.sum ps.sum:=⟨_,rfl⟩
  rw [← hfg] at fl0
  have hfgl:fg.length=ps.sum:=by rw [hfg,Ma.dws_len]
  refine ⟨sz (by simp),fun tl htl=>?_⟩
  have s1:=same_upd (o:=.lst []) htl
  have u1:(upd H0 tl (.lst [])) tl=some (.lst (([]:List Addr).map V.ref)):=upd_same
  generalize upd H0 tl (.lst [])=H1 at s1 u1⊢
  have htlH:H tl=none:=s0.free htl
  have S1:=s0.trans s1
  have G1:=G.keep S1
  have nar:a≠tl:=ne_of_none G.hp htlH
  have ncr:c≠tl:=ne_of_none G.hw htlH
  refine ⟨_,rfl,a,rfl,⟨_,SqL.of G1.hp⟩,for_list (K:=K) (a:=a) (xs:=natV ps) (fun i σ H'=>∃ (ds:List Addr) (v8:Option V),σ=[some (.ref g),some (.int n),some (.int b),some (.ref a),some (.ref c),some (.ref fl),some (.ref tl),some (.int (((ps.take i).sum:Nat):Int)),v8,none,none,none,none,none,none,none,none,none,none,none,none,none]∧Kp [tl] H1 H'∧H' tl=some (.lst (ds.map V.ref))∧Paired (TAt H' b tl) ds ((Ma.cuts ps ws).take i)) ⟨[],none,rfl,Kp.refl,u1,.nil⟩ (fun i σ H' _ h=>by obtain ⟨_,_,_,z,_⟩:=h;exact SqL.of (z _ _ G1.hp (by simpa using nar))) ?_ ?_⟩
  ·rintro i x σ H2 hx ⟨ds,v8,rfl,kp2,rl2,PD2⟩
   obtain ⟨p,hp,rfl⟩:=natV_at hx
   have hrow:=Ma.cuts_get ps ws i p hp
   have hp6:=ok.pr p (List.mem_of_getElem? hp)
   have hA:(ps.take i).sum+p≤ps.sum:=by
    have h1:(ps.take (i+1)).sum=(ps.take i).sum+p:=by rw [List.take_add_one,hp];simp
    have h2:=congrArg List.sum (List.take_append_drop (i+1) ps)
    rw [List.sum_append] at h2
    omega
   have hrl':((ws.drop (ps.take i).sum).take p).length=p:=by rw [List.length_take,List.length_drop,ok.wl];omega
   have hwr:∀ x∈(ws.drop (ps.take i).sum).take p,-9≤x∧x≤9:=fun x hx=>ok.wr x (List.mem_of_mem_drop (List.mem_of_mem_take hx))
   have hil:i<ps.length:=(List.getElem?_eq_some_iff.mp hp).1
   have hdl:ds.length=i:=by rw [Paired.length PD2,List.length_take,Ma.cuts_len];omega
   refine ⟨_,rfl,.inl ⟨rfl,_,SqL.of rl2⟩,_,rfl,_,rfl,_,rfl,_,rfl,_,rfl,_,rfl,_,_,rfl,rfl,_,rfl,c,_,rfl,SqL.of (kp2 _ _ G1.hw (by simpa using ncr)),fun sl hsl=>?_⟩
   rw [show (upd H2 sl (.lst (cutV (ws.map V.int) (some (((ps.take i).sum:Nat):Int)) (some ((((ps.take i).sum:Nat):Int)+((p:Nat):Int))))))=upd H2 sl (.lst (((ws.drop (ps.take i).sum).take p).map V.int)) from by rw [cut_ints]]
   generalize (ws.drop (ps.take i).sum).take p=row at hrow hrl' hwr⊢
   have s3:=same_upd (o:=.lst (row.map V.int)) hsl
   have u3:(upd H2 sl (.lst (row.map V.int))) sl=_:=upd_same
   generalize upd H2 sl (.lst (row.map V.int))=H3 at s3 u3⊢
   refine ⟨b,sl,row,rfl,u3,b16,hwr,by omega,fun tp ts H4 htp s4 tp4 tlen tnw TL=>?_⟩
   have T4:=s3.trans s4
   have rl4:=T4 _ _ rl2
   have ntp:tp≠tl:=fun z=>by rw [z,s3 _ _ rl2] at htp;cases htp
   refine ⟨tl,_,_,rfl,rfl,rl4,szl (by rw [List.length_map];omega),?_⟩
   refine ⟨_,rfl,_,rfl,_,_,rfl,rfl,ds++[tp],some (.int p),?_,kp_upd (fun y ob e n=>T4 _ _ (kp2 y ob e n)) (.inl (by simp)),by rw [upd_same,List.map_append];rfl,?_⟩
   ·have e:(((ps.take (i+1)).sum:Nat):Int)=(((ps.take i).sum:Nat):Int)+((p:Nat):Int):=by rw [List.take_add_one,hp];simp
    rw [e]
    rfl
   ·rw [List.take_add_one,hrow]
    exact Paired.snoc (L2.Paired.mapP PD2 fun _ _ e=>(e.keep T4).upd rl4) (TAt.upd ⟨ntp,ts,tp4,tlen,TL⟩ rl4)
  rintro σ H2 ⟨tls,v8,rfl,kp2,rl2,PD2⟩
  have el:(natV ps).length=(Ma.cuts ps ws).length:=by simp [natV,Ma.cuts_len]
  rw [el,List.take_length] at PD2
  have S2:Same H H2:=fun y ob e=>kp2 _ _ (S1 _ _ e) (by have:=ne_of_none e htlH;simpa using this)
  have G2:=G.keep S2
  have fl2:H2 fl=some (.lst (natV fg)):=kp2 _ _ (s1 _ _ fl0) (by have:=ne_of_none fl0 htl;simpa using this)
  have tll:tls.length=ps.length:=by rw [Paired.length PD2,Ma.cuts_len]
  clear kp2
  -- part by part
  refine ⟨_,rfl,a,rfl,⟨_,SqL.of G2.hp⟩,for_enum (K:=K) (a:=a) (xs:=natV ps) (fun j σ H'=>∃ (tg:Option Int) (v8 v11 v12 v13 v14 v15 v16 v17 v18 v19 v20 v21:Option V),σ=[some (.ref g),some (.int n),some (.int b),some (.ref a),some (.ref c),some (.ref fl),some (.ref tl),some (.int (((ps.take j).sum:Nat):Int)),v8,some (.int (Mg.ns gE (n / b ^ (ps.drop j).sum*b ^ (ps.drop j).sum))),some (tgV tg),v11,v12,v13,v14,v15,v16,v17,v18,v19,v20,v21]∧Same H2 H'∧Mu.Ctx b (n / b ^ (ps.drop j).sum) (ps.take j) ws tg)
   ⟨none,v8,none,none,none,none,none,none,none,none,none,none,none,?_,Same.refl _,.inl ⟨rfl,rfl⟩⟩ (fun j σ H' _ h=>by obtain ⟨_,_,_,_,_,_,_,_,_,_,_,_,_,_,z,_⟩:=h;exact SqL.of (z _ _ G2.hp)) ?_ ?_⟩
  ·rw [List.drop_zero,Nat.div_eq_of_lt hn,Nat.zero_mul]
   rfl
  ·rintro j x σ H3 t hx ⟨tg,v8,v11,v12,v13,v14,v15,v16,v17,v18,v19,v20,v21,rfl,s3,ctx⟩ ht
   obtain ⟨p,hp,rfl⟩:=natV_at hx
   have hjl:j<ps.length:=(List.getElem?_eq_some_iff.mp hp).1
   have hrow:=Ma.cuts_get ps ws j p hp
   have hp6:=ok.pr p (List.mem_of_getElem? hp)
   obtain ⟨ps2,hps2⟩:∃ ps2,ps2=ps.drop (j+1):=⟨_,rfl⟩
   obtain ⟨A',hA'⟩:∃ A',A'=(ps.take j).sum:=⟨_,rfl⟩
   have hdj:ps.drop j=p::ps2:=by
    rw [hps2,List.drop_eq_getElem_cons hjl]
    congr 1
    exact (List.getElem?_eq_some_iff.mp hp).2
   have hps:ps.take j++p::ps2=ps:=by rw [← hdj];exact List.take_append_drop j ps
   have hS:A'+(p+ps2.sum)=ps.sum:=by
    have:=congrArg List.sum hps
    rw [List.sum_append,List.sum_cons,← hA'] at this
    exact this
   rw [hdj,List.sum_cons] at ctx
   rw [hdj,List.sum_cons]
   rw [← hA'] at hrow⊢
   obtain ⟨row,er⟩:∃ row,(ws.drop A').take p=row:=⟨_,rfl⟩
   rw [er] at hrow
   have hrl:row.length=p:=by rw [← er,List.length_take,List.length_drop,ok.wl];omega
   obtain ⟨ws2,hws2⟩:∃ ws2,ws2=ws.drop (A'+p):=⟨_,rfl⟩
   have hwl2:ws2.length=ps2.sum:=by rw [hws2,List.length_drop,ok.wl];omega
   have hcd:(Ma.cuts ps ws).drop (j+1)=Ma.cuts ps2 ws2:=by
    rw [Mu.cuts_drop,← hps2,hws2]
    congr 2
    rw [List.take_add_one,hp,List.sum_append,← hA']
    simp
   have hcl2:=Me.cuts_lens ps2 ws2 hwl2
   have hl2:ps2.length=ps.length - (j+1):=by rw [hps2,List.length_drop]
   have s4:=same_upd (o:=.tup [.int j,.int p]) ht
   have u4:(upd H3 t (.tup [.int j,.int p])) t=_:=upd_same
   refine ⟨t,_,rfl,SqT.of u4,rfl,_,_,rfl,_,_,rfl,rfl,?_⟩
   generalize upd H3 t (.tup [.int j,.int p])=H4 at s4 u4⊢
   have T4:=s3.trans s4
   have G4:=G2.keep T4
   have PD4:=L2.Paired.mapP PD2 fun _ _ e=>e.keep T4
   have tl4:=T4 _ _ rl2
   have ela:(natV ps).length=ps.length:=by simp [natV]
   have enn:((((natV ps).length:Nat):Int) - ((j:Int)+1)).toNat=ps2.length:=by rw [ela,hl2];omega
   have row_of:∀ i,i<ps2.length→∃ (q:Nat) (rw2:List Int),ps2[i]?=some q∧ps[j+1+i]?=some q∧(Ma.cuts ps2 ws2)[i]?=some rw2∧(Ma.cuts ps ws)[j+1+i]?=some rw2∧rw2.length=q∧q≤6:=fun i hi=>by
    obtain ⟨q,hq⟩:∃ q,ps2[i]?=some q:=⟨_,List.getElem?_eq_getElem hi⟩
    obtain ⟨r2,hr2⟩:∃ r2,(Ma.cuts ps2 ws2)[i]?=some r2:=⟨_,List.getElem?_eq_getElem (by rw [Ma.cuts_len];exact hi)⟩
    refine ⟨q,r2,hq,?_,hr2,?_,?_,?_⟩
    ·rw [hps2,List.getElem?_drop] at hq;exact hq
    ·rw [← hcd,List.getElem?_drop] at hr2;exact hr2
    ·have h2:((Ma.cuts ps2 ws2).map List.length)[i]?=some r2.length:=by rw [List.getElem?_map,hr2];rfl
     rw [hcl2,hq] at h2
     exact (Option.some.inj h2).symm
    ·have h3:q∈ps:=List.mem_of_mem_drop (by rw [← hps2];exact List.mem_of_getElem? hq)
     exact (ok.pr q h3).2
   -- the whole parts behind
   refine ⟨_,rfl,_,_,rfl,rfl,_,rfl,a,_,rfl,.inl (SqL.of G4.hp),_,_,rfl,⟨by omega,by omega,by rw [ela];omega,by rw [ela];omega⟩,?_⟩
   refine comp_range (lo:=(j:Int)+1) (n:=((((natV ps).length:Nat):Int) - ((j:Int)+1)).toNat) (fun i ys H'=>∃ ds2:List Addr,ys=ds2.map V.ref∧ds2.length=i∧Paired (DRep H4 b) ds2 ((Ma.cuts ps2 ws2).take i)∧H4=H') ⟨[],rfl,rfl,.nil,rfl⟩ ?_ ?_
   ·rintro i ys H' hi ⟨ds2,rfl,hdl,PW,rfl⟩
    rw [enn] at hi
    obtain ⟨q,r2,q1,q2,q3,q4,q5,q6⟩:=row_of i hi
    obtain ⟨tq,htq,TA⟩:=paired_get PD4 q4
    obtain ⟨ts,d,t1,t2,t3⟩:=TA.one (by omega) (Nat.le_refl r2.length)
    rw [Nat.sub_self,List.drop_zero] at t3
    have ei:(j:Int)+1+(i:Int)=((j+1+i:Nat):Int):=by push_cast;rfl
    rw [ei]
    refine ⟨szl (by rw [List.length_map];omega),_,rfl,_,rfl,tl,_,_,.ref tq,rfl,rfl,SqL.of tl4,atI_nat (by rw [List.getElem?_map,htq];rfl),_,rfl,_,rfl,a,_,_,.int q,rfl,rfl,SqL.of G4.hp,atI_nat (by rw [natV,List.getElem?_map,q2];rfl),tq,_,_,.ref d,rfl,rfl,SqL.of t1,atI_nat (by rw [List.getElem?_map,← q5,t2];rfl),ds2++[d],by simp,by simp [hdl],?_,rfl⟩
    rw [List.take_add_one,q3]
    exact Paired.snoc PW t3
   rintro ys H' ⟨ds2,rfl,hdl,PW,rfl⟩ wh hwh
   rw [enn] at hdl PW
   rw [show ps2.length=(Ma.cuts ps2 ws2).length by rw [Ma.cuts_len],List.take_length] at PW
   have s5:=same_upd (o:=.lst (ds2.map V.ref)) hwh
   have u5:(upd H4 wh (.lst (ds2.map V.ref))) wh=_:=upd_same
   generalize upd H4 wh (.lst (ds2.map V.ref))=H5 at s5 u5⊢
   have G5:=G4.keep s5
   -- their powers
   refine ⟨_,rfl,_,_,rfl,rfl,_,rfl,a,_,rfl,.inl (SqL.of G5.hp),_,_,rfl,⟨by omega,by omega,by rw [ela];omega,by rw [ela];omega⟩,?_⟩
   refine comp_range (lo:=(j:Int)+1) (n:=((((natV ps).length:Nat):Int) - ((j:Int)+1)).toNat) (fun i ys H'=>ys=(ps2.take i).map (fun q=>V.int ((b ^ q:Nat):Int))∧H5=H') ⟨rfl,rfl⟩ ?_ ?_
   ·rintro i ys H' hi ⟨rfl,rfl⟩
    rw [enn] at hi
    obtain ⟨q,r2,q1,q2,q3,q4,q5,q6⟩:=row_of i hi
    have ei:(j:Int)+1+(i:Int)=((j+1+i:Nat):Int):=by push_cast;rfl
    rw [ei]
    refine ⟨szl (by simp only [List.length_map,List.length_take];omega),_,rfl,_,rfl,_,rfl,a,_,_,.int q,rfl,rfl,SqL.of G5.hp,atI_nat (by rw [natV,List.getElem?_map,q2];rfl),b,q,rfl,b16,by omega,?_,rfl⟩
    rw [List.take_add_one,q1]
    simp
   rintro ys H' ⟨rfl,rfl⟩ pw hpw
   rw [enn,List.take_length]
   have s6:=same_upd (o:=.lst (ps2.map fun q=>V.int ((b ^ q:Nat):Int))) hpw
   have u6:(upd H5 pw (.lst (ps2.map fun q=>V.int ((b ^ q:Nat):Int)))) pw=_:=upd_same
   generalize upd H5 pw (.lst (ps2.map fun q=>V.int ((b ^ q:Nat):Int)))=H6 at s6 u6⊢
   have T6:=T4.trans (s5.trans s6)
   have wh6:=s6 _ _ u5
   have PW6:=whole_keep PW (s5.trans s6)
   have fl6:=T6 _ _ fl2
   have G6:=G2.keep T6
   have tl6:=T6 _ _ rl2
   obtain ⟨tq,htq,TA0⟩:=paired_get PD2 hrow
   have TA:=TA0.keep T6
   have hctx:=ctx
   have hn':n<b ^ (ps.take j++p::ps2).sum:=by rw [hps];exact hn
   have hww:ws.length=(ps.take j).sum+(p+ps2.sum):=by rw [ok.wl,← hA',hS]
   have h0':(Ma.cuts (ps.take j++p::ps2) ws)[0]?=some row0:=by rw [hps];exact hrow0
   have er':(ws.drop (ps.take j).sum).take p=row:=by rw [← hA'];exact er
   -- figure by figure
   refine ⟨_,rfl,_,rfl,by omega,by omega,?_⟩
   have ep:((p:Nat):Int).toNat=p:=Int.toNat_natCast _
   rw [ep]
   refine for_range (n:=p) (fun i σ H'=>∃ (v15 v16 v17 v18 v19 v20 v21:Option V),σ=[some (.ref g),some (.int n),some (.int b),some (.ref a),some (.ref c),some (.ref fl),some (.ref tl),some (.int ((A':Nat):Int)),some (.int p),some (.int (Mg.ns gE (n / b ^ Mu.lft p ps2 i*b ^ Mu.lft p ps2 i))),some (tgV tg),some (.int j),some (.int (Mg.ws1 b (n / b ^ Mu.lft p ps2 i % b ^ i) (row.take i))),some (.ref wh),some (.ref pw),v15,v16,v17,v18,v19,v20,v21]∧Same H6 H') ⟨v15,v16,v17,v18,v19,v20,v21,?_,Same.refl _⟩ ?_ ?_
   ·rw [Nat.pow_zero,Nat.mod_one,List.take_zero]
    rfl
   ·rintro i σ H7 hi ⟨v15,v16,v17,v18,v19,v20,v21,rfl,s7⟩
    have zi:(0:Int)+(i:Int)=(i:Int):=Int.zero_add _
    rw [zi]
    obtain ⟨wt,hwt⟩:∃ wt,row[i]?=some wt:=⟨_,List.getElem?_eq_getElem (by omega)⟩
    have hwtw:ws[A'+i]?=some wt:=by
     rw [← er,List.getElem?_take_of_lt hi,List.getElem?_drop] at hwt
     exact hwt
    have hw9:=ok.wr wt (List.mem_of_getElem? hwtw)
    obtain ⟨fi,hfi⟩:∃ fi,fi=n / b ^ Mu.lft p ps2 (i+1) % b:=⟨_,rfl⟩
    have hfib:fi<b:=by rw [hfi];exact Nat.mod_lt _ b0
    have hfa:fg[A'+i]?=some fi:=by
     rw [hfg,Mu.dws_at (by omega),hfi]
     congr 3
     unfold Mu.lft
     congr 1
     omega
    obtain ⟨ts,own,t1,t2,t3⟩:=(TA.keep s7).one (by omega) (j:=p - 1 - i) (by omega)
    rw [show row.length - (p - 1 - i)=i+1 by omega] at t3
    have T7:=T6.trans s7
    have G7:=G2.keep T7
    have eix:(p:Int) - 1 - (i:Int)=((p - 1 - i:Nat):Int):=by omega
    have eai:((A':Nat):Int)+(i:Int)=((A'+i:Nat):Int):=by push_cast;rfl
    -- own
    refine ⟨_,rfl,_,rfl,tl,_,_,.ref tq,rfl,rfl,SqL.of (T7 _ _ rl2),atI_nat (by rw [List.getElem?_map,htq];rfl),_,rfl,_,_,rfl,rfl,_,rfl,_,_,rfl,rfl,tq,_,(p:Int) - 1 - (i:Int),.ref own,rfl,rfl,SqL.of t1,by rw [eix];exact atI_nat (by rw [List.getElem?_map,t2];rfl),?_⟩
    -- rows
    refine ⟨_,rfl,sz (by simp),fun l1 hl1=>?_⟩
    have s8:=same_upd (o:=.lst [.ref own]) hl1
    have u8:(upd H7 l1 (.lst [.ref own])) l1=_:=upd_same
    generalize upd H7 l1 (.lst [.ref own])=H8 at s8 u8⊢
    have S78:=s7.trans s8
    refine ⟨_,rfl,l1,wh,_,_,rfl,rfl,u8,S78 _ _ wh6,sz (by simp;omega),fun l2 hl2=>?_⟩
    have s9:=same_upd (o:=.lst ([V.ref own]++ds2.map V.ref)) hl2
    have u9:(upd H8 l2 (.lst ([V.ref own]++ds2.map V.ref))) l2=some (.lst (V.ref own::ds2.map V.ref)):=upd_same
    generalize upd H8 l2 (.lst ([V.ref own]++ds2.map V.ref))=H9 at s9 u9⊢
    refine ⟨_,rfl,_,rfl,_,_,rfl,rfl,_,rfl,_,_,rfl,rfl,b,p - 1 - i,(by rw [← eix];rfl),b16,by omega,sz (by simp),fun l3 hl3=>?_⟩
    have s10:=same_upd (o:=.lst [.int ((b ^ (p - 1 - i):Nat):Int)]) hl3
    have u10:(upd H9 l3 (.lst [.int ((b ^ (p - 1 - i):Nat):Int)])) l3=_:=upd_same
    generalize upd H9 l3 (.lst [.int ((b ^ (p - 1 - i):Nat):Int)])=H10 at s10 u10⊢
    have S710:=s7.trans (s8.trans (s9.trans s10))
    refine ⟨_,rfl,l3,pw,_,_,rfl,rfl,u10,S710 _ _ u6,sz (by simp;omega),fun l4' hl4=>?_⟩
    have s11:=same_upd (o:=.lst ([V.int ((b ^ (p - 1 - i):Nat):Int)]++ps2.map fun q=>V.int ((b ^ q:Nat):Int))) hl4
    have u11:(upd H10 l4' (.lst ([V.int ((b ^ (p - 1 - i):Nat):Int)]++ps2.map fun q=>V.int ((b ^ q:Nat):Int)))) l4'=some (.lst (V.int ((b ^ (p - 1 - i):Nat):Int)::ps2.map fun q=>V.int ((b ^ q:Nat):Int))):=upd_same
    generalize upd H10 l4' (.lst ([V.int ((b ^ (p - 1 - i):Nat):Int)]++ps2.map fun q=>V.int ((b ^ q:Nat):Int)))=H11 at s11 u11⊢
    refine ⟨sz (by simp),fun rw' hrw=>?_⟩
    have s12:=same_upd (o:=.lst [.ref l2,.ref l4']) hrw
    have u12:(upd H11 rw' (.lst [.ref l2,.ref l4'])) rw'=_:=upd_same
    generalize upd H11 rw' (.lst [.ref l2,.ref l4'])=H12 at s12 u12⊢
    have X12:=s8.trans (s9.trans (s10.trans (s11.trans s12)))
    have S12:=T7.trans X12
    -- ahead
    refine ⟨_,rfl,_,rfl,_,rfl,_,_,rfl,rfl,_,rfl,fl,_,rfl,SqL.of (S12 _ _ fl2),fun ah hah=>?_⟩
    rw [show (upd H12 ah (.lst (cutV (natV fg) none (some (((A':Nat):Int)+(i:Int))))))=upd H12 ah (.lst (natV (fg.take (A'+i)))) from by rw [eai,cut_upto,natV,natV,List.map_take]]
    have s13:=same_upd (o:=.lst (natV (fg.take (A'+i)))) hah
    have u13:(upd H12 ah (.lst (natV (fg.take (A'+i))))) ah=_:=upd_same
    generalize upd H12 ah (.lst (natV (fg.take (A'+i))))=H13 at s13 u13⊢
    have S13:=S12.trans s13
    have X13:=X12.trans s13
    have G13:=G2.keep S13
    -- weight
    refine ⟨_,rfl,_,rfl,_,rfl,_,_,rfl,rfl,c,_,((A':Nat):Int)+(i:Int),.int wt,rfl,rfl,SqL.of G13.hw,by rw [eai];exact atI_nat (by rw [List.getElem?_map,hwtw];rfl),?_⟩
    have efa:atI (natV fg) (((A':Nat):Int)+(i:Int))=some (.int ((fi:Nat):Int)):=by rw [eai];exact atI_nat (by rw [natV,List.getElem?_map,hfa];rfl)
    refine ⟨_,rfl,_,rfl,_,rfl,_,_,rfl,rfl,fl,_,((A':Nat):Int)+(i:Int),_,rfl,rfl,SqL.of (S13 _ _ fl2),efa,_,rfl,by omega,by omega,?_⟩
    have ef:((fi:Nat):Int).toNat=fi:=Int.toNat_natCast _
    rw [ef]
    refine for_range (n:=fi) (fun cc σ H'=>∃ (v20 v21:Option V),σ=[some (.ref g),some (.int n),some (.int b),some (.ref a),some (.ref c),some (.ref fl),some (.ref tl),some (.int ((A':Nat):Int)),some (.int p),some (.int (Mg.ns gE ((n / b ^ Mu.lft p ps2 i*b+cc)*b ^ Mu.lft p ps2 (i+1)))),some (tgV tg),some (.int j),some (.int (Mg.ws1 b (n / b ^ Mu.lft p ps2 i % b ^ i) (row.take i))),some (.ref wh),some (.ref pw),some (.int i),some (.ref own),some (.ref rw'),some (.ref ah),some (.int wt),v20,v21]∧Same H13 H') ⟨v20,v21,?_,Same.refl _⟩ ?_ ?_
    ·have e:(n / b ^ Mu.lft p ps2 i*b+0)*b ^ Mu.lft p ps2 (i+1)=n / b ^ Mu.lft p ps2 i*b ^ Mu.lft p ps2 i:=by
      rw [Nat.add_zero,Nat.mul_assoc,← Nat.pow_succ']
      congr 2
      unfold Mu.lft
      omega
     rw [e]
     rfl
    ·rintro cc σ H14 hcc ⟨v20,v21,rfl,s14⟩
     have zc:(0:Int)+(cc:Int)=(cc:Int):=Int.zero_add _
     rw [zc]
     refine ⟨_,rfl,_,rfl,_,rfl,_,_,rfl,rfl,.inr ⟨by omega,by omega⟩,_,_,rfl,rfl,_,rfl,sz (by simp),fun mo hmo=>?_⟩
     have s15:=same_upd (o:=.lst [.int (Mg.ws1 b (n / b ^ Mu.lft p ps2 i % b ^ i) (row.take i)+(cc:Int)*wt),tgV tg]) hmo
     have u15:(upd H14 mo (.lst [.int (Mg.ws1 b (n / b ^ Mu.lft p ps2 i % b ^ i) (row.take i)+(cc:Int)*wt),tgV tg])) mo=_:=upd_same
     generalize upd H14 mo (.lst [.int (Mg.ws1 b (n / b ^ Mu.lft p ps2 i % b ^ i) (row.take i)+(cc:Int)*wt),tgV tg])=H15 at s15 u15⊢
     have Y15:=s14.trans s15
     refine ⟨_,rfl,_,rfl,_,rfl,_,rfl,sz (by simp),fun l5 hl5=>?_⟩
     have s16:=same_upd (o:=.lst [.int ((cc:Nat):Int)]) hl5
     have u16:(upd H15 l5 (.lst [.int ((cc:Nat):Int)])) l5=_:=upd_same
     generalize upd H15 l5 (.lst [.int ((cc:Nat):Int)])=H16 at s16 u16⊢
     have Y16:=Y15.trans s16
     refine ⟨ah,l5,_,_,rfl,rfl,Y16 _ _ u13,u16,sz (by simp only [natV,List.length_map,List.length_take,List.length_cons,List.length_nil];omega),fun ah2 hah2=>?_⟩
     have s17:=same_upd (o:=.lst (natV (fg.take (A'+i))++[.int ((cc:Nat):Int)])) hah2
     have u17:(upd H16 ah2 (.lst (natV (fg.take (A'+i))++[.int ((cc:Nat):Int)]))) ah2=some (.lst (natV (fg.take (A'+i)++[cc]))):=by rw [upd_same];simp [natV]
     generalize upd H16 ah2 (.lst (natV (fg.take (A'+i))++[.int ((cc:Nat):Int)]))=H17 at s17 u17⊢
     have Y17:=Y16.trans s17
     have Z17:=X13.trans Y17
     have V17:=(s10.trans (s11.trans (s12.trans s13))).trans Y17
     have hnum:Ma.num b (fg.take (A'+i)++[cc])=n / b ^ Mu.lft p ps2 i*b+cc:=by
      rw [Ma.num_snoc,hfg,Mu.dws_take b0 hn (by omega),Ma.num_dws b0 ?_]
      ·congr 3
       unfold Mu.lft
       congr 1
       omega
      ·refine Nat.div_lt_of_lt_mul ?_
       rw [← Nat.pow_add]
       rw [show ps.sum - (A'+i)+(A'+i)=ps.sum by omega]
       exact hn
     have hrd:(row.drop (i+1)).length=p - 1 - i:=by rw [List.length_drop,hrl];omega
     refine ⟨_,rfl,_,rfl,g,a,c,b,ps,ws,ah2,rw',mo,l2,l4',own,ds2,fg.take (A'+i)++[cc],row.drop (i+1),ps2,ws2,Mg.ws1 b (n / b ^ Mu.lft p ps2 i % b ^ i) (row.take i)+(cc:Int)*wt,tg,rfl,G13.keep Y17,⟨u17,?_,(s13.trans Y17) _ _ u12,?_,?_,(s16.trans s17) _ _ u15,t3.keep Z17,whole_keep PW6 (s7.trans Z17),hwl2,?_,by omega,?_,by omega⟩,fun H18 s18=>?_⟩
     ·intro d hd
      rcases List.mem_append.mp hd with hd | hd
      ·have:=List.mem_of_mem_take hd
       rw [hfg] at this
       exact Ma.dws_lt b0 this
      ·rw [List.mem_singleton.mp hd];omega
     ·exact V17 _ _ u9
     ·rw [((s12.trans s13).trans Y17) _ _ u11,hrd]
      congr 3
      conv=>lhs;rw [← hcl2,List.map_map]
      rfl
     ·rw [List.length_append,List.length_take,hrd,hfgl]
      simp
      omega
     ·intro r2 hr2
      have h3:r2.length∈ps2:=by rw [← hcl2];exact List.mem_map.mpr ⟨r2,hr2,rfl⟩
      exact (ok.pr _ (List.mem_of_mem_drop (by rw [← hps2];exact h3))).2
     ·refine ⟨_,_,rfl,rfl,some (.int cc),some (.ref mo),?_,Y17.trans s18⟩
      have key:=Mu.inner (ps1:=ps.take j) (ps2:=ps2) (tg:=tg) (i:=i) (c:=cc) b0 hn' hww h0' hctx er' hi (by omega) hwt
      rw [hps,← hgE,← hA',← hws2] at key
      rw [hnum,← key]
      rfl
    ·rintro σ H14 ⟨v20,v21,rfl,s14⟩
     have S14:=S13.trans s14
     refine ⟨_,rfl,_,rfl,_,rfl,_,rfl,_,_,rfl,rfl,fl,_,((A':Nat):Int)+(i:Int),_,rfl,rfl,SqL.of (S14 _ _ fl2),efa,_,rfl,_,_,rfl,rfl,.inr ⟨by omega,by omega⟩,_,_,rfl,rfl,some (.int i),some (.ref own),some (.ref rw'),some (.ref ah),some (.int wt),v20,v21,?_,s7.trans (X13.trans s14)⟩
     have e1:=Mu.inner_end (n:=n) (b:=b) (ps2:=ps2) hi
     have e2:=Mu.begun_step (n:=n) (ps2:=ps2) (p:=p) b0 hi hwt
     rw [← hfi] at e1 e2
     rw [e1,← e2]
     rfl
   ·rintro σ H7 ⟨v15,v16,v17,v18,v19,v20,v21,rfl,s7⟩
    have elp:Mu.lft p ps2 p=ps2.sum:=by unfold Mu.lft;omega
    have erp:row.take p=row:=by rw [← hrl,List.take_length]
    rw [elp,erp]
    have ets:(((ps.take (j+1)).sum:Nat):Int)=((A':Nat):Int)+((p:Nat):Int):=by rw [List.take_add_one,hp,List.sum_append,← hA'];simp
    have etk:ps.take (j+1)=ps.take j++[p]:=by rw [List.take_add_one,hp];rfl
    refine ⟨_,rfl,_,rfl,_,_,rfl,rfl,?_⟩
    refine ⟨fun σ' H'=>σ'=[some (.ref g),some (.int n),some (.int b),some (.ref a),some (.ref c),some (.ref fl),some (.ref tl),some (.int (((ps.take (j+1)).sum:Nat):Int)),some (.int p),some (.int (Mg.ns gE (n / b ^ ps2.sum*b ^ ps2.sum))),some (tgV tg),some (.int j),some (.int (Mg.ws1 b (n / b ^ ps2.sum % b ^ p) row)),some (.ref wh),some (.ref pw),v15,v16,v17,v18,v19,v20,v21]∧H7=H'∧(tg=none∨tg=some (Mg.ws1 b (n / b ^ ps2.sum % b ^ p) row)),?_,?_⟩
    ·cases tg with
     | none =>
      refine ⟨_,rfl,rfl,_,rfl,iteNS rfl (iteF ⟨?_,rfl,.inl rfl⟩)⟩
      rw [ets]
      rfl
     | some t =>
      refine ⟨_,rfl,rfl,_,rfl,ite2 (fun _=>?_) (fun z=>absurd (by simp) z)⟩
      refine ⟨_,rfl,_,rfl,rfl,_,rfl,ite2 (fun hne=>?_) (fun heq=>?_)⟩
      ·have hne':t≠Mg.ws1 b (n / b ^ ps2.sum % b ^ p) row:=fun z=>by rw [z] at hne;simp at hne
       refine ⟨_,rfl,?_⟩
       have key:=Mu.stop_sum (ps1:=ps.take j) (ps2:=ps2) b0 hn' hww h0' er' hctx hne'
       rw [hps,← hgE] at key
       rw [key,← hev]
       exact k row0 H7 (S2.trans (T6.trans s7)) hrow0
      ·have heq':t=Mg.ws1 b (n / b ^ ps2.sum % b ^ p) row:=by
        by_cases z:t=Mg.ws1 b (n / b ^ ps2.sum % b ^ p) row
        ·exact z
        ·exact absurd (by simp [z]) heq
       refine ⟨?_,rfl,.inr (by rw [heq'])⟩
       rw [ets]
       rfl
    ·rintro σ' H' ⟨rfl,rfl,hor⟩
     refine ⟨_,rfl,some (Mg.ws1 b (n / b ^ ps2.sum % b ^ p) row),some (.int p),some (.int j),some (.int (Mg.ws1 b (n / b ^ ps2.sum % b ^ p) row)),some (.ref wh),some (.ref pw),v15,v16,v17,v18,v19,v20,v21,?_,T6.trans s7,?_⟩
     ·rw [← hps2]
      rfl
     ·rw [← hps2,etk]
      exact Mu.ctx_next b0 hn' hww er' hctx hor
  ·rintro σ H3 ⟨tg,v8,v11,v12,v13,v14,v15,v16,v17,v18,v19,v20,v21,rfl,s3,ctx⟩
   have ela:(natV ps).length=ps.length:=by simp [natV]
   have e:n / b ^ (ps.drop (natV ps).length).sum*b ^ (ps.drop (natV ps).length).sum=n:=by rw [ela,List.drop_length];simp
   rw [e,← hev]
   exact ⟨_,rfl,k row0 H3 (S2.trans s3) hrow0⟩
end
end Hv
namespace Hv
open PySem L2
theorem St7.ints{H:Hp}{s q x:Addr}{ds ns:List Int}(S:St7 H s q ds)(h:H x=some (.lst (ns.map V.int))):x∉[s]:=fun z=>by
 obtain ⟨c,e⟩:=S.hs
 have z':x=s:=by simpa using z
 rw [z',e] at h
 have h2:[V.ref q,V.int c]=ns.map V.int:=by injection h with h;injection h
 cases ns with
 | nil=>cases h2
 | cons d r=>cases h2
theorem St7.other{H:Hp}{s q x:Addr}{ds:List Int}{o:HO}(S:St7 H s q ds)(h:H x=some o)(ho:∀ xs,o≠.lst xs):x∉[s]:=fun z=>by
 obtain ⟨c,e⟩:=S.hs
 have z':x=s:=by simpa using z
 rw [z',e] at h
 exact ho _ (Option.some.inj h).symm
theorem FrAt.kp7{H H':Hp}{f a c s q:Addr}{b:Nat}{ps:List Nat}{ws ds:List Int}(G:FrAt H f a c b ps ws)(S:St7 H s q ds)(k:Kp [s] H H'):FrAt H' f a c b ps ws :=
 ⟨k _ _ G.tp (S.other G.tp (fun xs z=>nomatch z)),k _ _ G.hp (S.ints (by rw [← natV_eq];exact G.hp)),k _ _ G.hw (S.ints G.hw),G.ok⟩
noncomputable def spSomeN:Sp:=fun vs H Q _=>∃ (s q:Addr) (ds:List Int) (m:Nat),vs=[.ref s,.int m]∧St7 H s q ds∧0<m∧∀ (r:Nat) (H':Hp),r≤m→St7 H' s q ds→Kp [s] H H'→Q (.int r) H'
section
variable{P:Program}{w:World}{K:PySem.W.Frag}{mg:Str→Option Value}{base:Heap}
theorem scSomeN:FnScope ["store","many","far","turn","most","x","some"] ["store","many"] (defScope sSomeNumber):=⟨rfl,rfl,rfl,by decide +kernel,rfl,by decide +kernel,by decide +kernel⟩
theorem ok_somen{f:Addr}{fd:FuncData}(F:Fun K "_law_some_number" "_law_some_number" sSomeNumber f fd)(T:Txt mg)(DT:Def P w K mg base 1 "_law_take" ["store","many"] spTake7):FnOk P w K mg base CX0 2 f fd ["store","many"] spSomeN:=by
 refine F.ok scSomeN (fun vs H Q E h=>?_) (fun cdv A outer s H vs Q E hr h=>?_)
 ·obtain ⟨s,q,ds,m,rfl,_⟩:=h;rfl
 ·obtain ⟨st,q,ds,m,rfl,S,hm,k⟩:=h
  have nd:=scSomeN.nd
  refine ⟨_,pss_cons (ps_set (i:=2) nd rfl (Or.inl rfl) pe_int)
   (pss_cons (ps_for PassesOwn.never rfl (pi_range1 (by rfl) T.range (pa_cons pe_int pa_nil)) (pg_name (i:=3) nd rfl (Or.inl rfl)) (pss_one (ps_set (i:=2) nd rfl (Or.inl rfl) (pe_op op_add (pe_op op_mul (pv 2) pe_int) (pe_fn DT hr (by rfl) (pa_cons (pv 0) (pa_cons pe_int pa_nil)))))))
   (pss_cons (ps_set (i:=4) nd rfl (Or.inl rfl) (pv 1))
   (pss_cons (ps_set (i:=5) nd rfl (Or.inl rfl) (pe_fn DT hr (by rfl) (pa_cons (pv 0) (pa_cons pe_int pa_nil))))
   (pss_cons (ps_set (i:=6) nd rfl (Or.inl rfl) (pe_lst (pa_cons (pe_op op_mod (pe_op op_mod (pv 5) pe_int) (pe_op op_add (pv 4) pe_int)) (pa_cons (pe_op op_mod (pv 5) (pe_op op_add (pv 4) pe_int)) (pa_cons (pe_op op_mod (pv 2) (pe_op op_add (pv 4) pe_int)) (pa_cons (pe_op op_sub (pv 4) (pe_op op_mod (pv 5) (pe_callB (call_min2 rfl) (by rfl) T.min boot_min (pa_cons pe_int (pa_cons (pv 4) pa_nil))))) (pa_cons (pv 4) pa_nil)))))))
   (pss_one (ps_ret (ixl (pv 6) (pe_op op_mod (pe_op op_fdiv (pv 5) pe_int) pe_int)))))))),?_⟩
  refine ⟨_,rfl,by decide,by decide,for_range (n:=(8:Int).toNat) (fun i σ H'=>∃ (far:Int) (v3:Option V),σ=[some (.ref st),some (.int m),some (.int far),v3,none,none,none]∧0≤far∧St7 H' st q ds∧Kp [st] H H') ⟨0,none,rfl,Int.le_refl _,S,Kp.refl⟩ ?_ ?_⟩
  ·rintro i σ H1 hi ⟨far,v3,rfl,hf,S1,k1⟩
   refine ⟨_,rfl,_,_,rfl,rfl,.inr ⟨by decide,by decide⟩,_,rfl,st,q,ds,10007,rfl,S1,by decide,fun r H2 r0 r1 S2 k2=>?_⟩
   refine ⟨_,_,rfl,rfl,far*10007+r,some (.int (0+(i:Int))),rfl,by omega,S2,k1.trans k2⟩
  ·rintro σ H1 ⟨far,v3,rfl,hf,S1,k1⟩
   refine ⟨_,rfl,_,rfl,st,q,ds,10007,rfl,S1,by decide,fun x H2 x0 x1 S2 k2=>?_⟩
   have em:(0:Int)<(m:Int)+1:=by omega
   obtain ⟨mn,hmn,emn⟩:∃ mn:Int,(0<mn∧mn≤m)∧(if (m:Int)<9 then (m:Int) else 9)=mn:=⟨_,by split <;> omega,rfl⟩
   refine ⟨_,rfl,_,_,rfl,rfl,(by show (0:Int)<60;decide),_,rfl,_,_,rfl,rfl,_,_,rfl,rfl,em,?_⟩
   refine ⟨_,rfl,_,rfl,_,_,rfl,rfl,_,_,rfl,rfl,em,?_⟩
   refine ⟨_,rfl,_,rfl,_,_,rfl,rfl,_,_,rfl,rfl,em,?_⟩
   refine ⟨_,rfl,_,rfl,_,rfl,9,(m:Int),rfl,?_⟩
   rw [emn]
   refine ⟨_,_,rfl,rfl,hmn.1,_,_,rfl,rfl,_,rfl,sz (by simp),fun l hl=>?_⟩
   obtain ⟨L,eL,hL⟩:=at_ints (ns:=[x % 60 % ((m:Int)+1),x % ((m:Int)+1),far % ((m:Int)+1),(m:Int) - x % mn,(m:Int)]) (i:=x / 60 % 5) (Pr:=fun n=>0≤n∧n≤(m:Int)) (by omega) (by simp;omega) (by
    intro y hy
    simp only [List.mem_cons,List.not_mem_nil,or_false] at hy
    have a1:=Int.emod_nonneg (x % 60) (show (m:Int)+1≠0 by omega)
    have a2:=Int.emod_lt_of_pos (x % 60) em
    have a3:=Int.emod_nonneg x (show (m:Int)+1≠0 by omega)
    have a4:=Int.emod_lt_of_pos x em
    have a5:=Int.emod_nonneg far (show (m:Int)+1≠0 by omega)
    have a6:=Int.emod_lt_of_pos far em
    have a7:=Int.emod_nonneg x (show mn≠0 by omega)
    have a8:=Int.emod_lt_of_pos x hmn.1
    rcases hy with rfl | rfl | rfl | rfl | rfl <;> omega)
   refine ⟨_,rfl,_,rfl,_,_,rfl,rfl,⟨by decide,by decide⟩,_,_,rfl,rfl,(by show (0:Int)<5;decide),r_ixl upd_same eL ?_⟩
   obtain ⟨r,rfl⟩:∃ r:Nat,L=(r:Int):=⟨L.toNat,by omega⟩
   exact k r _ (by omega) (S2.keep (same_upd hl)) ((k1.trans k2).trans (Kp.of (same_upd hl)))
noncomputable abbrev nsLaw:List Str:=["script","store","turn","frame","handed","whole","again","many","k","n","due"]
theorem scLaw:FnScope nsLaw ["script"] (defScope sLaw):=⟨rfl,rfl,rfl,by decide +kernel,rfl,by decide +kernel,by decide +kernel⟩
theorem ok_law{f:Addr}{fd:FuncData}(F:Fun K "law" "law" sLaw f fd)(T:Txt mg)(DW:Def P w K mg base 1 "_law_draws" ["script","many"] (spDraws K))(DF:Def P w K mg base 2 "_law_frame" ["store","most"] spFrame7)(DC:Def P w K mg base 1 "_law_copy" ["frame"] spCopy7)
  (DA:Def P w K mg base 2 "_law_sum_of_all" ["frame"] spSumEven) (DB:Def P w K mg base 3 "_law_sum_below" ["frame","n"] spSumBelowL) (DP:Def P w K mg base 1 "_law_power" ["base","many"] spPowL) (DN:Def P w K mg base 2 "_law_some_number" ["store","many"] spSomeN) (DH:Def P w K mg base 1 "_law_whole" ["found","due"] spWholeL)
  (DE:Def P w K mg base 11 "sum_even" ["frame"] spSumEven) (DL:Def P w K mg base 10 "sum_even_below" ["frame","n"] spSumBelow):FnOk P w K mg base CX0 12 f fd ["script"] (spLaw K):=by
 refine F.ok scLaw (fun vs H Q E h=>?_) (fun cdv A outer s H vs Q E hr h=>?_)
 ·obtain ⟨a,ns,rfl,_⟩:=h;rfl
 ·obtain ⟨a0,ns,rfl,hS,hlen,k⟩:=h
  have nd:=scLaw.nd
  have hu:=hr.units
  refine ⟨_,pss_cons (ps_set (i:=1) nd rfl (Or.inl rfl) (pe_lst (pa_cons (pe_fn DW (hr.mono (by decide)) (by rfl) (pa_cons (pv 0) (pa_cons pe_int pa_nil))) (pa_cons pe_int pa_nil))))
   (pss_cons (ps_for PassesOwn.never rfl (pi_range1 (by rfl) T.range (pa_cons pe_int pa_nil)) (pg_name (i:=2) nd rfl (Or.inl rfl))
    (pss_cons (ps_set (i:=3) nd rfl (Or.inl rfl) (pe_fn DF (hr.mono (by decide)) (by rfl) (pa_cons (pv 1) (pa_cons (ixl (pe_lst (pa_cons pe_int (pa_cons pe_int (pa_cons pe_int pa_nil)))) (pv 2)) pa_nil))))
    (pss_cons (ps_set (i:=4) nd rfl (Or.inl rfl) (pe_fn DC (hr.mono (by decide)) (by rfl) (pa_cons (pv 3) pa_nil)))
    (pss_cons (ps_set (i:=5) nd rfl (Or.inl rfl) (pe_fn DA (hr.mono (by decide)) (by rfl) (pa_cons (pv 3) pa_nil)))
    (pss_cons (ps_for PassesOwn.never rfl (pi_range1 (by rfl) T.range (pa_cons pe_int pa_nil)) (pg_name (i:=6) nd rfl (Or.inl rfl))
     (pss_one (ps_if (PW.pt (pw_or (pt_not (pt_val (pe_fn DH (hr.mono (by decide)) (by rfl) (pa_cons (pe_fn DE hr (by rfl) (pa_cons (pv 4) pa_nil)) (pa_cons (pv 5) pa_nil))))) (pw_or1 (pt_cmpR (op_neDP P w rfl rfl hu) (pv 4) (pv 3) (nomark _))))) (pss_one (ps_ret pe_bl)) pss_nil)))
    (pss_cons (ps_set (i:=7) nd rfl (Or.inl rfl) (pe_fn DP (hr.mono (by decide)) (by rfl) (pa_cons (ixt (pv 3) pe_int) (pa_cons (pe_callB (call_sumA rfl) (by rfl) T.sum boot_sum (pa_cons (ixt (pv 3) pe_int) pa_nil)) pa_nil))))
    (pss_one (ps_for PassesOwn.never rfl (pi_range1 (by rfl) T.range (pa_cons pe_int pa_nil)) (pg_name (i:=8) nd rfl (Or.inl rfl))
     (pss_cons (ps_set (i:=9) nd rfl (Or.inl rfl) (pe_fn DN (hr.mono (by decide)) (by rfl) (pa_cons (pv 1) (pa_cons (pv 7) pa_nil))))
     (pss_cons (ps_set (i:=10) nd rfl (Or.inl rfl) (pv 5))
     (pss_cons (ps_cut (ps_if (pt_cmpR op_lt (pv 9) (pv 7) (nomark _)) (pss_one (ps_set (i:=10) nd rfl (Or.inl rfl) (pe_fn DB (hr.mono (by decide)) (by rfl) (pa_cons (pv 3) (pa_cons (pv 9) pa_nil))))) pss_nil))
     (pss_one (ps_for PassesOwn.never rfl (pi_range1 (by rfl) T.range (pa_cons pe_int pa_nil)) (pg_name (i:=6) nd rfl (Or.inl rfl))
      (pss_one (ps_if (PW.pt (pw_or (pt_not (pt_val (pe_fn DH (hr.mono (by decide)) (by rfl) (pa_cons (pe_fn DL (hr.mono (by decide)) (by rfl) (pa_cons (pv 4) (pa_cons (pv 9) pa_nil))) (pa_cons (pv 10) pa_nil))))) (pw_or1 (pt_cmpR (op_neDP P w rfl rfl hu) (pv 4) (pv 3) (nomark _))))) (pss_one (ps_ret pe_bl)) pss_nil)))))))))))))))
   (pss_one (ps_ret (pe_and (pe_cmpR op_eq (pe_fn DE hr (by rfl) (pa_cons (pe_tup (pa_cons pe_int (pa_cons (pe_lst (pa_cons pe_int (pa_cons pe_int pa_nil))) (pa_cons (pe_lst (pa_cons pe_int (pa_cons pe_int pa_nil))) pa_nil)))) pa_nil)) pe_int (nomark _)) (pe_one (pe_cmpR op_eq (pe_fn DL (hr.mono (by decide)) (by rfl) (pa_cons (pe_tup (pa_cons pe_int (pa_cons (pe_lst (pa_cons pe_int (pa_cons pe_int pa_nil))) (pa_cons (pe_lst (pa_cons pe_int (pa_cons pe_int pa_nil))) pa_nil)))) (pa_cons pe_int pa_nil))) pe_int (nomark _))))))),?_⟩
  -- the store
  refine ⟨_,rfl,a0,ns,rfl,hS,hlen,fun l H1 ds hl s1 h1 hne=>⟨sz (by simp),fun st hst=>?_⟩⟩
  have S2:St7 (upd H1 st (.lst [.ref l,.int 0])) st l ds:=⟨⟨0,upd_same⟩,by rw [upd_ne (ne_of_none h1 hst)];exact h1,hne⟩
  generalize upd H1 st (.lst [.ref l,.int 0])=H2 at S2⊢
  refine ⟨_,rfl,by decide,by decide,for_range (n:=(3:Int).toNat) (fun i σ H'=>∃ (v2 v3 v4 v5 v6 v7 v8 v9 v10:Option V),σ=[some (.ref a0),some (.ref st),v2,v3,v4,v5,v6,v7,v8,v9,v10]∧St7 H' st l ds) ⟨none,none,none,none,none,none,none,none,none,rfl,S2⟩ ?_ ?_⟩
  ·rintro i σ H3 hi ⟨v2,v3,v4,v5,v6,v7,v8,v9,v10,rfl,S3⟩
   have hi':i<3:=hi
   refine ⟨_,rfl,sz (by simp),fun m hm=>⟨_,rfl,?_⟩⟩
   obtain ⟨L,eL,hL⟩:=at_ints (ns:=[6,3,3]) (i:=0+(i:Int)) (Pr:=fun n=>1≤n∧n≤6) (by omega) (by simp;omega) (by simp)
   refine r_ixl upd_same eL ⟨st,l,ds,L,rfl,S3.keep (same_upd hm),hL.1,hL.2,fun f a c b ps ws H4 S4 k4 G4 nf na nc=>?_⟩
   refine ⟨_,rfl,f,a,c,b,ps,ws,rfl,G4,fun f' a' c' H5 s5 G5 nf' na' nc'=>?_⟩
   have ok:=G4.ok
   have b16:=ok.b16
   have b2:=ok.b2
   have hsum:=ok.sum
   obtain ⟨row0,hrow0⟩:∃ row0,(Ma.cuts ps ws)[0]?=some row0:=⟨_,List.getElem?_eq_getElem (by rw [Ma.cuts_len];have:=ok.l2;omega)⟩
   refine ⟨_,rfl,f,a,c,b,ps,ws,rfl,G4.keep s5,fun row H6 s6 hrow=>?_⟩
   rw [hrow0] at hrow
   cases hrow
   obtain ⟨whole,hwh⟩:∃ whole,whole=evS b row0 ((Ma.cuts ps ws).drop 1) (b ^ ps.sum):=⟨_,rfl⟩
   rw [← hwh]
   have S6:=(S4.keep s5).keep s6
   have F6:=(G4.keep s5).keep s6
   have F6':=G5.keep s6
   refine ⟨_,rfl,by decide,by decide,for_range (n:=(2:Int).toNat) (fun d σ H'=>∃ (v6:Option V),σ=[some (.ref a0),some (.ref st),some (.int (0+(i:Int))),some (.ref f),some (.ref f'),some (.int whole),v6,v7,v8,v9,v10]∧Same H6 H') ⟨_,rfl,Same.refl _⟩ ?_ ?_⟩
   ·rintro d σ H7 hd ⟨v6,rfl,s7⟩
    refine ⟨_,rfl,f',a',c',b,ps,ws,rfl,F6'.keep s7,fun row H8 s8 hrow=>?_⟩
    rw [hrow0] at hrow
    cases hrow
    rw [← hwh]
    have T8:=s7.trans s8
    refine ⟨_,rfl,whole,rfl,_,rfl,iteF ⟨_,rfl,_,rfl,eq_self (F6'.keep T8).dat (F6.keep T8).dat (frD_lay _ _ _) (frD_depth _ _ _) ⟨_,rfl,iteF ⟨_,rfl,T8⟩⟩⟩⟩
   ·rintro σ H7 ⟨v6,rfl,s7⟩
    have F7:=F6.keep s7
    refine ⟨_,rfl,_,_,_,_,rfl,rfl,SqT.of F7.tp,rfl,_,rfl,_,_,_,_,rfl,rfl,SqT.of F7.tp,rfl,a,ps.map (fun (p:Nat)=>(p:Int)),rfl,SqL.of (by rw [← natV_eq];exact F7.hp),b,ps.sum,by rw [sumN];rfl,b16,by omega,?_⟩
    have N0:0<b ^ ps.sum:=Nat.pow_pos (by omega)
    refine ⟨_,rfl,by decide,by decide,for_range (n:=(2:Int).toNat) (fun d σ H'=>∃ (v6 v8 v9 v10:Option V),σ=[some (.ref a0),some (.ref st),some (.int (0+(i:Int))),some (.ref f),some (.ref f'),some (.int whole),v6,some (.int ((b ^ ps.sum:Nat):Int)),v8,v9,v10]∧St7 H' st l ds∧FrAt H' f a c b ps ws∧FrAt H' f' a' c' b ps ws) ⟨_,_,_,_,rfl,S6.keep s7,F7,F6'.keep s7⟩ ?_ ?_⟩
    ·rintro d σ H8 hd ⟨v6,v8,v9,v10,rfl,S8,F8,F8'⟩
     refine ⟨_,rfl,_,rfl,st,l,ds,b ^ ps.sum,rfl,S8,N0,fun n H9 hn S9 k9=>?_⟩
     have F9:=F8.kp7 S8 k9
     have F9':=F8'.kp7 S8 k9
     refine ⟨_,rfl,?_⟩
     obtain ⟨due,hdue⟩:∃ due,due=evS b row0 ((Ma.cuts ps ws).drop 1) n:=⟨_,rfl⟩
     refine ⟨fun σ' H'=>σ'=[some (.ref a0),some (.ref st),some (.int (0+(i:Int))),some (.ref f),some (.ref f'),some (.int whole),v6,some (.int ((b ^ ps.sum:Nat):Int)),some (.int (0+(d:Int))),some (.int n),some (.int due)]∧Same H9 H',?_,?_⟩
     ·refine ⟨_,rfl,_,rfl,_,_,rfl,rfl,_,rfl,ite2 (fun hlt=>?_) (fun hge=>?_)⟩
      ·have hlt':n<b ^ ps.sum:=by have:=of_decide_eq_true hlt;omega
       refine ⟨_,rfl,_,rfl,f,a,c,b,ps,ws,n,rfl,F9,hlt',fun row H10 s10 hrow=>?_⟩
       rw [hrow0] at hrow
       cases hrow
       rw [← hdue]
       exact ⟨rfl,s10⟩
      ·have hge':n=b ^ ps.sum:=by
        rcases Nat.lt_or_ge n (b ^ ps.sum) with q | q
        ·exact absurd (decide_eq_true (by omega)) hge
        ·omega
       refine ⟨?_,Same.refl _⟩
       rw [hdue,hge',← hwh]
       rfl
     ·rintro σ' H10 ⟨rfl,s10⟩
      refine ⟨_,rfl,by decide,by decide,for_range (n:=(2:Int).toNat) (fun e σ H'=>∃ (v6:Option V),σ=[some (.ref a0),some (.ref st),some (.int (0+(i:Int))),some (.ref f),some (.ref f'),some (.int whole),v6,some (.int ((b ^ ps.sum:Nat):Int)),some (.int (0+(d:Int))),some (.int n),some (.int due)]∧Same H10 H') ⟨_,rfl,Same.refl _⟩ ?_ ?_⟩
      ·rintro e σ H11 he ⟨v6,rfl,s11⟩
       have T11:=s10.trans s11
       refine ⟨_,rfl,_,rfl,f',a',c',b,ps,ws,n,rfl,F9'.keep T11,hn,fun row H12 s12 hrow=>?_⟩
       rw [hrow0] at hrow
       cases hrow
       rw [← hdue]
       have T12:=T11.trans s12
       exact ⟨_,rfl,due,rfl,_,rfl,iteF ⟨_,rfl,_,rfl,eq_self (F9'.keep T12).dat (F9.keep T12).dat (frD_lay _ _ _) (frD_depth _ _ _) ⟨_,rfl,iteF ⟨_,rfl,s11.trans s12⟩⟩⟩⟩
      ·rintro σ H11 ⟨v6,rfl,s11⟩
       have T11:=s10.trans s11
       exact ⟨_,_,_,_,rfl,S9.keep T11,F9.keep T11,F9'.keep T11⟩
    ·rintro σ H8 ⟨v6,v8,v9,v10,rfl,S8,F8,F8'⟩
     exact ⟨_,_,_,_,_,_,_,_,_,rfl,S8⟩
  ·rintro σ H3 ⟨v2,v3,v4,v5,v6,v7,v8,v9,v10,rfl,S3⟩
   refine ⟨sz (by simp),fun l1 g1=>⟨sz (by simp),fun l2 g2=>⟨sz (by simp),fun t g3=>?_⟩⟩⟩
   refine ⟨t,l1,l2,10,[1,1],[1,1],rfl,⟨upd_same,(same_upd g3) _ _ ((same_upd g2) _ _ upd_same),(same_upd g3) _ _ upd_same,⟨by decide,by decide,by decide,by decide,by decide,by decide,by decide⟩⟩,fun row H4 s4 hrow=>?_⟩
   have er:row=[1]:=(Option.some.inj (show some [1]=some row from hrow)).symm
   subst er
   have e1:evS 10 [1] ((Ma.cuts [1,1] [1,1]).drop 1) (10 ^ [1,1].sum)=495:=by decide +kernel
   rw [e1]
   refine ⟨rfl,_,rfl,ite2 (fun _=>?_) (fun z=>absurd (decide_eq_true rfl) z)⟩
   refine ⟨sz (by simp),fun l3 g4=>⟨sz (by simp),fun l4 g5=>⟨sz (by simp),fun t2 g6=>?_⟩⟩⟩
   refine ⟨t2,l3,l4,10,[1,1],[1,1],44,rfl,⟨upd_same,(same_upd g6) _ _ ((same_upd g5) _ _ upd_same),(same_upd g6) _ _ upd_same,⟨by decide,by decide,by decide,by decide,by decide,by decide,by decide⟩⟩,by decide,fun row H5 s5 hrow=>?_⟩
   have er:row=[1]:=(Option.some.inj (show some [1]=some row from hrow)).symm
   subst er
   have e2:evS 10 [1] ((Ma.cuts [1,1] [1,1]).drop 1) 44=66:=by decide +kernel
   rw [e2]
   have e3:decide (V.int 66=V.int 66)=true:=decide_eq_true rfl
   refine ⟨rfl,?_⟩
   rw [e3]
   exact k _
end
end Hv
namespace Hv
open PySem L2
structure FnIn(K:PySem.W.Frag)(x:Str)(st:Stmt):Prop where
 ex:∃ (f:Addr) (oc:Value) (od an:Option Addr) (osl:Array (Option Value)) (kV doc pm cdv ct:Value),PySem.W.nsIn K mainGlobals x=some (some (.ref f))∧
  K.lookup f=some ⟨oc,od,.func (PySem.W.fnOf x x (defArgs st) (defBody st) (defScope st) .none kV doc pm an cdv ct),osl⟩∧PySem.W.codeIn K cdv x=true∧PySem.W.keepIn K (.ref f)=true
theorem fn_in{K:PySem.W.Frag}{x:Str}{st:Stmt}{f:Addr}{oc:Value}{od an:Option Addr}{osl:Array (Option Value)}{kV doc pm cdv ct:Value}(a:PySem.W.nsIn K mainGlobals x=some (some (.ref f)))
  (l:K.lookup f=some ⟨oc,od,.func (PySem.W.fnOf x x (defArgs st) (defBody st) (defScope st) .none kV doc pm an cdv ct),osl⟩) (c:PySem.W.codeIn K cdv x=true) (k:PySem.W.keepIn K (.ref f)=true):FnIn K x st:=⟨f,oc,od,an,osl,kV,doc,pm,cdv,ct,a,l,c,k⟩
structure TxtIn(K:PySem.W.Frag):Prop where
 isi:PySem.W.nsIn K mainGlobals "isinstance"=some none
 int:PySem.W.nsIn K mainGlobals "int"=some none
 bool:PySem.W.nsIn K mainGlobals "bool"=some none
 list:PySem.W.nsIn K mainGlobals "list"=some none
 tuple:PySem.W.nsIn K mainGlobals "tuple"=some none
 all:PySem.W.nsIn K mainGlobals "all"=some none
 len:PySem.W.nsIn K mainGlobals "len"=some none
 sum:PySem.W.nsIn K mainGlobals "sum"=some none
 range:PySem.W.nsIn K mainGlobals "range"=some none
 max:PySem.W.nsIn K mainGlobals "max"=some none
 min:PySem.W.nsIn K mainGlobals "min"=some none
 rev:PySem.W.nsIn K mainGlobals "reversed"=some none
 zip:PySem.W.nsIn K mainGlobals "zip"=some none
 enum:PySem.W.nsIn K mainGlobals "enumerate"=some none
theorem us0{p:List Value→Prop}(h:p [])(us:List Value)(hl:us.length=0):p us:=by rw [List.eq_nil_of_length_eq_zero hl];exact h
theorem usS{n:Nat}{p:List Value→Prop}(h:∀ a r,r.length=n→p (a::r))(us:List Value)(hl:us.length=n+1):p us:=by
 cases us with
 | nil=>cases hl
 | cons a r=>exact h a r (Nat.succ.inj hl)
theorem us1{p:List Value→Prop}(h:∀ a,p [a]):∀ us:List Value,us.length=1→p us:=usS fun a=>us0 (p:=fun r=>p (a::r)) (h a)
theorem us2{p:List Value→Prop}(h:∀ a b,p [a,b]):∀ us:List Value,us.length=2→p us:=usS fun a=>us1 (p:=fun r=>p (a::r)) (h a)
theorem us3{p:List Value→Prop}(h:∀ a b c,p [a,b,c]):∀ us:List Value,us.length=3→p us:=usS fun a=>us2 (p:=fun r=>p (a::r)) (h a)
theorem us4{p:List Value→Prop}(h:∀ a b c d,p [a,b,c,d]):∀ us:List Value,us.length=4→p us:=usS fun a=>us3 (p:=fun r=>p (a::r)) (h a)
section
variable{P:Program}{w:World}{K:PySem.W.Frag}{mg:Str→Option Value}{base h:Heap}
theorem TxtIn.txt(T:TxtIn K)(X:K.In h)(G:h.Ns mainGlobals mg):Txt mg :=
 have e:∀ x,PySem.W.nsIn K mainGlobals x=some none→mg x=none:=fun x z=>PySem.W.mg_none_of X G z
 ⟨e _ T.isi,e _ T.int,e _ T.bool,e _ T.list,e _ T.tuple,e _ T.all,e _ T.len,e _ T.sum,e _ T.range,e _ T.max,e _ T.min,e _ T.rev,e _ T.zip,e _ T.enum⟩
theorem def_of{x:Str}{st:Stmt}{k:Nat}{ps:List Str}{sp:Sp}(D:FnIn K x st)(X:K.In h)(G:h.Ns mainGlobals mg)(ok:∀ f fd,Fun K x x st f fd→FnOk P w K mg base CX0 k f fd ps sp)
  (hb:∀ (kV doc pm:Value) (an:Option Addr) (cdv ct:Value) (us:List Value),us.length=ps.length→bindArgs (PySem.W.fnOf x x (defArgs st) (defBody st) (defScope st) .none kV doc pm an cdv ct) ⟨us,[]⟩=pure (ps.zip us)):Def P w K mg base k x ps sp:=by
 obtain ⟨f,oc,od,an,osl,kV,doc,pm,cdv,ct,a,l,c,kp⟩:=D.ex
 have F:=fun_mk (st:=st) l c kp
 exact ⟨f,_,ok _ _ F,PySem.W.mg_of X G a,kp,F.binds hb⟩
end
end Hv
namespace Hv
open PySem L2
theorem all_mk{l:PySem.W.OpenLaw}{w:World}{K:PySem.W.Frag}{h:Heap}{mg:Str→Option Value}{fa:Addr}(X:K.In h)(G:h.Ns mainGlobals mg)(hfa:mg "law"=some (.ref fa))(TI:TxtIn K)
  (i0:FnIn K "is_whole" sWhole)
  (i1:FnIn K "is_between" sBetw)
  (i2:FnIn K "is_list_between" sLBetw)
  (i3:FnIn K "is_frame" sIsFrame)
  (i4:FnIn K "need_frame" sNeedFrame)
  (i5:FnIn K "how_many" sHowMany)
  (i6:FnIn K "need_number" sNeedNumber)
  (i7:FnIn K "cut_by_parts" sCut)
  (i8:FnIn K "figures_of" sFiguresOf)
  (i9:FnIn K "stands_of" sStands)
  (i10:FnIn K "add_rows" sAddRows)
  (i11:FnIn K "with_figure_ahead" sAhead)
  (i12:FnIn K "worth_tails" sTails)
  (i13:FnIn K "weighted_sum" sWeighted)
  (i14:FnIn K "number_of" sNumberOf)
  (i15:FnIn K "worth_from_beginnings" sWorthFrom)
  (i16:FnIn K "part_beginnings" sPartBegin)
  (i17:FnIn K "need_bound" sNeedBound)
  (i18:FnIn K "stretches_below" sStretches)
  (i19:FnIn K "joined_worth" sJoined)
  (i20:FnIn K "worth_begun" sWorthBegun)
  (i21:FnIn K "sum_even_below" sSumBelow)
  (i22:FnIn K "sum_even" sSumEven)
  (i23:FnIn K "_law_draws" sDraws)
  (i24:FnIn K "_law_take" sTake)
  (i25:FnIn K "_law_frame" sFrame)
  (i26:FnIn K "_law_copy" sCopy)
  (i27:FnIn K "_law_tails" sLawTails)
  (i28:FnIn K "_law_behind" sLawBehind)
  (i29:FnIn K "_law_figures" sFigures)
  (i30:FnIn K "_law_power" sLawPower)
  (i31:FnIn K "_law_with" sLawWith)
  (i32:FnIn K "_law_sum_below" sLawSumBelow)
  (i33:FnIn K "_law_sum_of_all" sLawSumOfAll)
  (i34:FnIn K "_law_some_number" sSomeNumber)
  (i35:FnIn K "_law_whole" sWholeL)
  (nabs:PySem.W.nsIn K mainGlobals "abs"=some none)
  (jl:FnIn K "law" sLaw) :
  ∃ fd:FuncData,(∀ (s:Shared) (v:Value),BindsTo s fd ⟨[v],[]⟩ [("script",v)])∧∀ base:Heap,K.In base→base.Ns mainGlobals mg→FnOk l.prog w K mg base CX0 12 fa fd ["script"] (spLaw K):=by
 have T:=TI.txt X G
 obtain ⟨f,oc,od,an,osl,kV,doc,pm,cdv,ct,a,lk,c,kp⟩:=jl.ex
 have e:=hfa.symm.trans (PySem.W.mg_of X G a)
 cases e
 have F:=fun_mk (st:=sLaw) lk c kp
 refine ⟨PySem.W.fnOf "law" "law" (defArgs sLaw) (defBody sLaw) (defScope sLaw) .none kV doc pm an cdv ct,fun s v=>.of_eq rfl,fun base BX _=>?_⟩
 have nabs:mg "abs"=none:=PySem.W.mg_none_of X G nabs
 have d_is_whole:Def l.prog w K mg base 1 "is_whole" ["thing"] spWhole:=def_of i0 X G (fun _ _ F=>ok_whole F T) fun _ _ _ _ _ _=>us1 fun _=>rfl
 have d_is_between:Def l.prog w K mg base 2 "is_between" ["thing","least","greatest"] spBetw:=def_of i1 X G (fun _ _ F=>ok_betw F d_is_whole) fun _ _ _ _ _ _=>us3 fun _ _ _=>rfl
 have d_is_list_between:Def l.prog w K mg base 3 "is_list_between" ["thing","least","greatest"] spLBetw:=def_of i2 X G (fun _ _ F=>ok_lbetw F T d_is_between) fun _ _ _ _ _ _=>us3 fun _ _ _=>rfl
 have d_is_frame:Def l.prog w K mg base 4 "is_frame" ["thing"] spIsFrame:=def_of i3 X G (fun _ _ F=>ok_isframe F T d_is_between d_is_list_between) fun _ _ _ _ _ _=>us1 fun _=>rfl
 have d_need_frame:Def l.prog w K mg base 5 "need_frame" ["thing"] spNeedFrame:=def_of i4 X G (fun _ _ F=>ok_needframe F d_is_frame) fun _ _ _ _ _ _=>us1 fun _=>rfl
 have d_how_many:Def l.prog w K mg base 6 "how_many" ["frame"] spHowMany:=def_of i5 X G (fun _ _ F=>ok_howmany F T d_need_frame) fun _ _ _ _ _ _=>us1 fun _=>rfl
 have d_need_number:Def l.prog w K mg base 7 "need_number" ["frame","thing"] spNeedNumber:=def_of i6 X G (fun _ _ F=>ok_neednumber F d_is_between d_how_many) fun _ _ _ _ _ _=>us2 fun _ _=>rfl
 have d_cut_by_parts:Def l.prog w K mg base 1 "cut_by_parts" ["frame","row"] spCut:=def_of i7 X G (fun _ _ F=>ok_cut F) fun _ _ _ _ _ _=>us2 fun _ _=>rfl
 have d_figures_of:Def l.prog w K mg base 8 "figures_of" ["frame","n"] spFigures:=def_of i8 X G (fun _ _ F=>ok_figuresof F T d_need_frame d_need_number) fun _ _ _ _ _ _=>us2 fun _ _=>rfl
 have d_stands_of:Def l.prog w K mg base 1 "stands_of" ["base","length"] spStands:=def_of i9 X G (fun _ _ F=>ok_stands F T) fun _ _ _ _ _ _=>us2 fun _ _=>rfl
 have d_add_rows_T:Def l.prog w K mg base 1 "add_rows" ["by_sums","total","ways","worth"] spAddT:=def_of i10 X G (fun _ _ F=>ok_addT F) fun _ _ _ _ _ _=>us4 fun _ _ _ _=>rfl
 have d_with_figure_ahead_T:Def l.prog w K mg base 2 "with_figure_ahead" ["tail","base","weight","stand"] spAheadT:=def_of i11 X G (fun _ _ F=>ok_aheadT F T d_add_rows_T) fun _ _ _ _ _ _=>us4 fun _ _ _ _=>rfl
 have d_worth_tails_T:Def l.prog w K mg base 3 "worth_tails" ["base","weights"] spTailsT:=def_of i12 X G (fun _ _ F=>ok_tailsT F T d_stands_of d_with_figure_ahead_T) fun _ _ _ _ _ _=>us2 fun _ _=>rfl
 have d_weighted_sum:Def l.prog w K mg base 1 "weighted_sum" ["figures","weights"] spWeighted:=def_of i13 X G (fun _ _ F=>ok_weighted F T) fun _ _ _ _ _ _=>us2 fun _ _=>rfl
 have d_number_of:Def l.prog w K mg base 1 "number_of" ["base","figures"] spNumberOf:=def_of i14 X G (fun _ _ F=>ok_numberof F) fun _ _ _ _ _ _=>us2 fun _ _=>rfl
 have d_worth_from_beginnings:Def l.prog w K mg base 2 "worth_from_beginnings" ["base","rows","weights","tails"] spWorthFrom:=def_of i15 X G (fun _ _ F=>ok_worthfrom F T d_add_rows_T d_stands_of d_weighted_sum d_number_of) fun _ _ _ _ _ _=>us4 fun _ _ _ _=>rfl
 have d_part_beginnings:Def l.prog w K mg base 1 "part_beginnings" ["frame","head","end"] spPartBegin:=def_of i16 X G (fun _ _ F=>ok_partbegin F T) fun _ _ _ _ _ _=>us3 fun _ _ _=>rfl
 have d_need_bound:Def l.prog w K mg base 7 "need_bound" ["frame","thing"] spNeedBound:=def_of i17 X G (fun _ _ F=>ok_needbound F d_is_between d_how_many) fun _ _ _ _ _ _=>us2 fun _ _=>rfl
 have d_stretches_below:Def l.prog w K mg base 9 "stretches_below" ["frame","n"] spStretches:=def_of i18 X G (fun _ _ F=>ok_stretches F T d_how_many d_figures_of) fun _ _ _ _ _ _=>us2 fun _ _=>rfl
 have d_joined_worth:Def l.prog w K mg base 2 "joined_worth" ["frame","sums_by_part"] spJoined:=def_of i19 X G (fun _ _ F=>ok_joined F T d_stands_of) fun _ _ _ _ _ _=>us2 fun _ _=>rfl
 have d_worth_begun:Def l.prog w K mg base 3 "worth_begun" ["frame","tails_by_part","head","end"] spWorthBegun:=def_of i20 X G (fun _ _ F=>ok_worthbegun F T d_part_beginnings d_cut_by_parts d_worth_from_beginnings d_joined_worth) fun _ _ _ _ _ _=>us4 fun _ _ _ _=>rfl
 have d_sum_even_below:Def l.prog w K mg base 10 "sum_even_below" ["frame","n"] spSumBelow:=def_of i21 X G (fun _ _ F=>ok_sumbelow F T d_need_frame d_need_bound d_cut_by_parts d_worth_tails_T d_stretches_below d_worth_begun) fun _ _ _ _ _ _=>us2 fun _ _=>rfl
 have d_sum_even:Def l.prog w K mg base 11 "sum_even" ["frame"] spSumEven:=def_of i22 X G (fun _ _ F=>ok_sumeven F d_how_many d_sum_even_below) fun _ _ _ _ _ _=>us1 fun _=>rfl
 have d_law_draws:Def l.prog w K mg base 1 "_law_draws" ["script","many"] (spDraws K):=def_of i23 X G (fun _ _ F=>ok_draws F T nabs) fun _ _ _ _ _ _=>us2 fun _ _=>rfl
 have d_law_take:Def l.prog w K mg base 1 "_law_take" ["store","many"] spTake7:=def_of i24 X G (fun _ _ F=>ok_take F T) fun _ _ _ _ _ _=>us2 fun _ _=>rfl
 have d_law_frame:Def l.prog w K mg base 2 "_law_frame" ["store","most"] spFrame7:=def_of i25 X G (fun _ _ F=>ok_frame F T d_law_take) fun _ _ _ _ _ _=>us2 fun _ _=>rfl
 have d_law_copy:Def l.prog w K mg base 1 "_law_copy" ["frame"] spCopy7:=def_of i26 X G (fun _ _ F=>ok_copy F T) fun _ _ _ _ _ _=>us1 fun _=>rfl
 have d_law_tails:Def l.prog w K mg base 1 "_law_tails" ["base","weights"] spTailsL:=def_of i27 X G (fun _ _ F=>ok_tailsL F T) fun _ _ _ _ _ _=>us2 fun _ _=>rfl
 have d_law_behind:Def l.prog w K mg base 1 "_law_behind" ["rows","powers","one"] spBehindL:=def_of i28 X G (fun _ _ F=>ok_behindl F T) fun _ _ _ _ _ _=>us3 fun _ _ _=>rfl
 have d_law_figures:Def l.prog w K mg base 1 "_law_figures" ["frame","n"] spFigures:=def_of i29 X G (fun _ _ F=>ok_figures F T) fun _ _ _ _ _ _=>us2 fun _ _=>rfl
 have d_law_power:Def l.prog w K mg base 1 "_law_power" ["base","many"] spPowL:=def_of i30 X G (fun _ _ F=>ok_powl F T) fun _ _ _ _ _ _=>us2 fun _ _=>rfl
 have d_law_with:Def l.prog w K mg base 2 "_law_with" ["frame","ahead","rows","more"] spWith:=def_of i31 X G (fun _ _ F=>ok_with F T d_law_power d_law_behind) fun _ _ _ _ _ _=>us4 fun _ _ _ _=>rfl
 have d_law_sum_below:Def l.prog w K mg base 3 "_law_sum_below" ["frame","n"] spSumBelowL:=def_of i32 X G (fun _ _ F=>ok_sumbelowl F T d_law_figures d_law_tails d_law_power d_law_with) fun _ _ _ _ _ _=>us2 fun _ _=>rfl
 have d_law_sum_of_all:Def l.prog w K mg base 2 "_law_sum_of_all" ["frame"] spSumEven:=def_of i33 X G (fun _ _ F=>ok_sumall F T d_law_tails d_law_power d_law_behind) fun _ _ _ _ _ _=>us1 fun _=>rfl
 have d_law_some_number:Def l.prog w K mg base 2 "_law_some_number" ["store","many"] spSomeN:=def_of i34 X G (fun _ _ F=>ok_somen F T d_law_take) fun _ _ _ _ _ _=>us2 fun _ _=>rfl
 have d_law_whole:Def l.prog w K mg base 1 "_law_whole" ["found","due"] spWholeL:=def_of i35 X G (fun _ _ F=>ok_wholel F T) fun _ _ _ _ _ _=>us2 fun _ _=>rfl
 exact ok_law F T d_law_draws d_law_frame d_law_copy d_law_sum_of_all d_law_sum_below d_law_power d_law_some_number d_law_whole d_sum_even d_sum_even_below
theorem walk{l:PySem.W.OpenLaw}{q:Program}{loose:List Str}{XP:(Str→Option Value)→Heap→Prop}{YP:World→Heap→Prop}{d:DefRec}{K:Params→PySem.W.Frag}(hn:l.most=some 63)(hdf:d.params.defaults=[])
  (hY:∀ (w:World) (h:Heap),YP w h→(K w.params).In h)
  (F:∀ (w:World) (mg:Str→Option Value) (fa:Addr) (h:Heap),(K w.params).In h→h.Ns mainGlobals mg→mg d.name=some (.ref fa)→
   ∃ fd:FuncData,(∀ (s:Shared) (u:Value),BindsTo s fd ⟨[u],[]⟩ [("script",u)])∧∀ base:Heap,(K w.params).In base→base.Ns mainGlobals mg→FnOk l.prog w (K w.params) mg base CX0 12 fa fd ["script"] (spLaw (K w.params))) :
  PySem.W.WalkO q loose XP YP l.row.toRowW d [] (fun f vs=>PySem.call f vs) :=
 L2.walk_of (n:=63) (k:=12) (x:="script") (CX:=fun _=>CX0) (sp:=fun w=>spLaw (K w.params)) hn (by decide) hdf ⟨rfl,by decide,by decide,rfl⟩ hY F (fun _ _ a ns hl _ hS=>⟨a,ns,rfl,hS,hl,fun _=>rfl⟩) fun _ _ _ _ _ z=>z
end Hv
open PySem PySem.W PyProof.Rows
namespace PySem.W.Fast
def tw2053340968696577517:=0
def tw3464832885775444337:=0
def tw877142239208010561:=0
def tw15221485384452926761:=0
def tw16525135760528098196:=0
def tw2451844275648452479:=0
def tw3941738206885559720:=0
def tw17155421442641461414:=0
def tw15791544773698159416:=0
def tw5703802156911407772:=0
def tw14089155723488559700:=0
def tw10917922331589893779:=0
def tw3670133897765857080:=0
def tw17940453474757447009:=0
def tw15039450834109777972:=0
def tw16214740727107795781:=0
def tw2008887999687027249:=0
def tw701970862973466720:=0
def tw12515658758210892873:=0
def tw10443469439943799710:=0
def tw16568437538255582577:=0
def tw2413706764636803808:=0
def tw12120748092181987607:=0
def tw17695839384919860169:=0
def tw8886948624643805125:=0
def tw17415647469261767338:=0
def tw13496966530695212279:=0
def tw12624678713254721716:=0
def tw6034444889415426543:=0
def tw3663543512730946788:=0
def tw18168648986374130933:=0
def tw633708405584478385:=0
def tw6611532040487724335:=0
def tw16974164199253542563:=0
def tw17710296721144258875:=0
def tw8863882625458612389:=0
def tw18084607471049624442:=0
def tw10306232601058763630:=0
def tw14631633382847097487:=0
def tw1648101370229958729:=0
def tw4297745290780938806:=0
def tw12510385832152076739:=0
def tw1092263794543387124:=0
def tw4399079223827761396:=0
def tw1016216626288449973:=0
def tw8157715502431270522:=0
def tw7814841081443458559:=0
def tw7181700712371853175:=0
def tw15441203146423285688:=0
def tw1352320804715667165:=0
def tw3980178962179180400:=0
def tw11475534880539945008:=0
def tw12071796759106093954:=0
def tw4003922466226922267:=0
def tw15389591165555693126:=0
def tw6103600578074141226:=0
def tw202719300248415725:=0
def tw10175787440327453593:=0
def tw10290108471781270079:=0
def tw7244180736297306814:=0
def tw15644582814536366474:=0
def tw15067483527126296292:=0
def tw12975722439414650965:=0
def tw2270211545102475428:=0
def tw8432857519563940908:=0
def tw13877363497491844887:=0
def tw7172528696910953034:=0
def tw11299541708551492435:=0
def tw8036470972069339976:=0
def tw4721970389310694831:=0
def tw15238608760144983733:=0
def tw5412114516835942068:=0
def tw538942402977864853:=0
def tw10909188177778931058:=0
def tw15212638456429046020:=0
def tw3742109872402931564:=0
def tw17117135308863338796:=0
def tw12277642562526092381:=0
def tw5892413501192921816:=0
def tw14220341975218688877:=0
def tw18204774825447122239:=0
def tw10784270371353884061:=0
def tw5569437344112582049:=0
def tw5497491465705384969:=0
def tw1123703414088163115:=0
def tw5378317261366186270:=0
def tw6531589678602866633:=0
def tw11842249149881285549:=0
def tw7800269852808170706:=0
def tw7902759420175900640:=0
def tw13049140324733100393:=0
def tw12284797774726914378:=0
def tw167869762211555208:=0
def tw5996074401984545738:=0
def tw12302185769021609216:=0
def tw7356252491287558372:=0
def tw7653981311005195648:=0
def tw15304491879752125078:=0
def tw10620833703053850479:=0
def tw1081650504376775470:=0
def tw17417360997802585269:=0
def tw5694351719326544488:=0
def tw3870764152536647844:=0
def tw16873162575027006390:=0
def tw16450022957754501359:=0
def tw17874193383121650281:=0
def tw10323374564901551607:=0
def tw3801705022330803715:=0
def tw6199442529704966772:=0
def tw17497003975086516117:=0
def tw3495183593294880840:=0
def tw15284809616757232562:=0
def tw15961943892094075480:=0
def tw2081101625341917723:=0
def tw16055719657204525745:=0
def tw3390424901068245962:=0
def tw2077551345008451147:=0
def tw14811833522223537809:=0
def tw542658845773051271:=0
def tw754945482267663874:=0
def tw3445891804052597775:=0
def tw4837141011994449462:=0
def tw12272225379224244294:=0
def tw10522630529959369775:=0
def tw8235017322890248635:=0
def tw10717640732331655327:=0
def tw15104570294690483103:=0
def tw6939663578530569528:=0
def tw15627782865230380827:=0
def tw16451791436979726198:=0
def tw1821264559082148875:=0
def tw18424756662552874172:=0
def tw9202796749762857024:=0
def tw8992736758623598104:=0
def tw9731382809288727703:=0
def tw1288711033958034152:=0
def tw12290406740143957746:=0
def tw13988572596463941146:=0
def tw6030727739839580658:=0
def tw16158751497211331676:=0
def tw1578001663853515411:=0
def tw5647672195507776024:=0
def tw11985400238756574860:=0
def tw9132509793951372969:=0
def tw17071901018878023460:=0
def tw14121708198857846507:=0
def tw3938231867917249907:=0
def tw8511208169880857047:=0
def tw6067512475866130442:=0
def tw6658654527449494152:=0
def tw14585510535902785327:=0
def tw17339570692850032909:=0
def tw9814759490672839599:=0
def tw15334818021337756749:=0
def tw8909050487383444369:=0
def tw13309638301698224131:=0
def tw9720427738616424085:=0
def tw2408668375544445710:=0
def tw9893043821574178529:=0
def tw14630472333639111551:=0
def tw8691589800486455104:=0
def tw2228922704311570564:=0
def tw12488492369236316987:=0
def tw7262131907973065142:=0
def tw4225123576470481870:=0
def tw5876576302297418595:=0
def tw687749396307126068:=0
def tw17931482909273699079:=0
def tw4128621438904912100:=0
def tw6907387511590778087:=0
def tw2912090795513925066:=0
def tw8975149299959028922:=0
def tw3499199392759682183:=0
def tw14308719146659453033:=0
def tw16395498469224138876:=0
def tw10213326398471772701:=0
def tw3005965468843936655:=0
def tw17229682269725463683:=0
def tw8462427685578147061:=0
def tw15337896366528897861:=0
def tw8001892072518402214:=0
def tw5855681013289348905:=0
def tw967005517279571281:=0
def tw1966675256262657459:=0
def tw2614021968801018293:=0
def tw9652698606131246652:=0
def tw17747279673161299043:=0
def tw9741146937410515948:=0
def tw4502566559952592530:=0
def tw17363587044235344507:=0
def tw8430280794576898666:=0
def tw3484100281840524594:=0
def tw3664776979136213777:=0
def tw6288488130587808068:=0
def tw17494141120973256220:=0
def tw9954366217874833898:=0
def tw5936916421691289879:=0
def tw4072729161491217047:=0
def tw16678931577747733497:=0
def tw5149812676466866745:=0
def tw215634068790232885:=0
def tw16503101759809950435:=0
def tw5232733827470498700:=0
def tw14801897255012435118:=0
def tw10153984107035922713:=0
def tw13318536631290389768:=0
def tw3727803987041260856:=0
def tw16281697305673371961:=0
def tw6213899933876910224:=0
def tw13947835145664449562:=0
def tw5748295025303482497:=0
def tw5010906691227562702:=0
def tw7362302415523320447:=0
def tw6714614836390760993:=0
def tw16985390573979842629:=0
def tw4396015942811152166:=0
def tw5868987261263016:=0
def tw15574619117587001514:=0
def tw12467908648793749253:=0
def tw11231961095351992648:=0
def tw692551912321796628:=0
def tw9661473689328676651:=0
def tw18135333442043376501:=0
def tw17673039841306655536:=0
def tw15650794920566800926:=0
def tw8545616736647329250:=0
def tw15861595489514429697:=0
def tw5246690891951545351:=0
def tw8968844313986832971:=0
def tw14956793566106692662:=0
def tw15352143098627223657:=0
def tw3200944462868660716:=0
def tw17507936258657983646:=0
def tw1756787765668394541:=0
def tw6108615619999788828:=0
def tw17408621325557881833:=0
def tw805065083442956001:=0
def tw8925346619870329392:=0
def tw9645767088389896690:=0
def tw9455347992528563900:=0
def tw5762389847554714700:=0
def tw6800990259781526322:=0
def tw10366911269958641647:=0
def tw9974272784192929424:=0
def tw6702076796812504252:=0
def tw8874950233985654254:=0
def tw3392917851547897170:=0
def tw3238698056282669629:=0
def tw16904897670195633885:=0
def tw128232528232934843:=0
def tw8803165547049467187:=0
def tw7319834031566144417:=0
def tw14405485996687379838:=0
def tw11706307233109425514:=0
def tw17345474218939198037:=0
def tw14721922593181895808:=0
def tw9120172413731798239:=0
def tw3726982841999646530:=0
def tw11596808708274984239:=0
def tw4634139433846492094:=0
def tw14064114339620027317:=0
def tw17428085600271970219:=0
def tw1615138111706390531:=0
def tw15173224000526802328:=0
def tw4331495234219006513:=0
def tw7221947916686204224:=0
def tw3680724869935276484:=0
end PySem.W.Fast
set_option maxRecDepth 100000 in
set_option maxHeartbeats 0 in
theorem PySem.Challenge.cw_likehalves_k19_sums_of_even_ones_holds : PySem.Challenge.rw_likehalves_k19_sums_of_even_ones.Holds := by
 w_on;o_law;k_head;(case hw=>w_witness2)
 k_fill
 refine Hv.walk (l := PySem.Challenge.rw_likehalves_k19_sums_of_even_ones) rfl rfl (fun w h Y => PySem.W.kIn_of Y) ?F
 case F =>
  intro w mg fa h KX G hmg
  refine' Hv.all_mk KX G hmg ?t ?i0 ?i1 ?i2 ?i3 ?i4 ?i5 ?i6 ?i7 ?i8 ?i9 ?i10 ?i11 ?i12 ?i13 ?i14 ?i15 ?i16 ?i17 ?i18 ?i19 ?i20 ?i21 ?i22 ?i23 ?i24 ?i25 ?i26 ?i27 ?i28 ?i29 ?i30 ?i31 ?i32 ?i33 ?i34 ?i35 ?nabs ?jl
  case nabs=>k_is
  case t=>refine ⟨?_,?_,?_,?_,?_,?_,?_,?_,?_,?_,?_,?_,?_,?_⟩ <;> k_is
  all_goals
   refine' Hv.fn_in ?a ?l ?c ?k
   (case a=>k_is);(case l=>k_is);(case c=>k_is);(case k=>k_is)
#print axioms PySem.Challenge.cw_likehalves_k19_sums_of_even_ones_holds
