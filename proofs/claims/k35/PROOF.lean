import PyProof.Rows.All
import Wide.All
import OpenK.AllK
import Wide.FinOn
import Lean
import PyProof.EqAt
import PyProof.EqKinds
import PyProof.TupleCall
import KE.KIsAll
import KE.KItem
import KE.KxBytes
import KE.KRevIter
import KE.KDictOf
import KE.KTurnsDict
import KE.KPairComp
import PyProof.Rows.SortShell
import KE.KDictList
import PyProof.AttrMissSeq
import PyProof.DictUpdate
import PyProof.WalksS
import PyProof.ListRange
import KE.KEqDict
import PyProof.SumWalkG
import PyProof.LongRange
import PyProof.ReprRoads
import PyProof.ReprLen
import PyProof.StationsW
import PyProof.Rows.TopTwo
import OpenK.KOwn
import PyProof.RulesDel
import PyProof.Rows.CatchOwn
import PyProof.RulesAs
import PyProof.ExcArgs
import PySem.Challenge.RW_likehalves_k35_keepers_apart
set_option compiler.extract_closed false
set_option genSizeOf false
set_option Elab.async false
set_option linter.all false
set_option maxRecDepth 100000
namespace L2
open PySem PySem.Spec PyProof.Rows
noncomputable abbrev Key:=Sum Int Str
noncomputable def keyIs:Key→Value→Bool
  | .inl k,v=>Value.isInt k v
  | .inr x,v=>Value.isStrOf x v
noncomputable def keyH (w:World):Key→Int
  | .inl k=>hashInt k
  | .inr x=>hashStr w x
theorem keyIs_shape:∀ {k:Key} {v:Value},keyIs k v=true→(∃ i t,k=Sum.inl i∧v=Value.int i t)∨(∃ x t,k=Sum.inr x∧v=Value.str x t)
  | .inl i,v,h=>by
    obtain ⟨t,e⟩:=Value.isInt_shape (k:=i) (v:=v) h
    exact .inl ⟨i,t,rfl,e⟩
  | .inr x,v,h=>by
    obtain ⟨t,e⟩:=Value.isStrOf_shape (x:=x) (v:=v) h
    exact .inr ⟨x,t,rfl,e⟩
theorem keyIs_int (i:Int) (t:Tok):keyIs (.inl i) (.int i t)=true:=by simp [keyIs,Value.isInt]
theorem keyIs_str (x:Str) (t:Tok):keyIs (.inr x) (.str x t)=true:=by simp [keyIs,Value.isStrOf]
theorem key_ll (a b:Int):decide ((Sum.inl a:Key)=Sum.inl b)=(a==b):=by
  by_cases e:a=b
  · subst e;simp
  · have h:¬ (Sum.inl a:Key)=Sum.inl b:=fun q=>e (Sum.inl.inj q)
    rw [decide_eq_false h]
    exact (beq_eq_false_iff_ne.mpr e).symm
theorem key_rr (a b:Str):decide ((Sum.inr a:Key)=Sum.inr b)=decide (a=b):=by
  by_cases e:a=b
  · subst e;simp
  · have h:¬ (Sum.inr a:Key)=Sum.inr b:=fun q=>e (Sum.inr.inj q)
    rw [decide_eq_false h,decide_eq_false e]
theorem key_lr (a:Int) (b:Str):decide ((Sum.inl a:Key)=Sum.inr b)=false:=decide_eq_false (fun q=>nomatch q)
theorem key_rl (a:Str) (b:Int):decide ((Sum.inr a:Key)=Sum.inl b)=false:=decide_eq_false (fun q=>nomatch q)
noncomputable def mixKind (prog:Program) (w:World):PySem.KeyKind prog w Key where
  is:=keyIs
  hash:=keyH w
  inj:=fun v a b ha hb=>by
    rcases keyIs_shape ha with ⟨i,t,rfl,rfl⟩ | ⟨x,t,rfl,rfl⟩
    · rcases keyIs_shape hb with ⟨j,u,rfl,e⟩ | ⟨y,u,rfl,e⟩
      · injection e with e1 _;rw [e1]
      · exact nomatch e
    · rcases keyIs_shape hb with ⟨j,u,rfl,e⟩ | ⟨y,u,rfl,e⟩
      · exact nomatch e
      · injection e with e1 _;rw [e1]
  byValue:=fun k v h=>by
    rcases keyIs_shape h with ⟨i,t,rfl,rfl⟩ | ⟨x,t,rfl,rfl⟩ <;> rfl
  pyHash:=fun hv h=>by
    rcases keyIs_shape hv with ⟨i,t,rfl,rfl⟩ | ⟨x,t,rfl,rfl⟩
    · exact wpAny_pyHash_int h
    · exact wpAny_pyHash_str h
  eqBool:=fun hu hv h=>by
    rcases keyIs_shape hu with ⟨i,t,rfl,rfl⟩ | ⟨x,t,rfl,rfl⟩
    · rcases keyIs_shape hv with ⟨j,u,rfl,rfl⟩ | ⟨y,u,rfl,rfl⟩
      · rw [key_ll] at h;exact wpAny_eqBool_int h
      · rw [key_lr] at h;exact SeqAt.EqAt.int_str i t y u _ _ _ _ h
    · rcases keyIs_shape hv with ⟨j,u,rfl,rfl⟩ | ⟨y,u,rfl,rfl⟩
      · rw [key_rl] at h;exact SeqAt.EqAt.str_int x t j u _ _ _ _ h
      · rw [key_rr] at h;exact wpAny_eqBool_str h
  «strs»:=fun k x t v h=>by
    rcases keyIs_shape h with ⟨i,u,rfl,e⟩ | ⟨y,u,rfl,e⟩
    · exact nomatch e
    · injection e with e1 _
      subst e1
      cases v <;> rfl
theorem mixKind_int (prog:Program) (w:World) (i:Int) (t:Tok):(mixKind prog w).is (.inl i) (.int i t)=true:=keyIs_int i t
theorem mixKind_str (prog:Program) (w:World) (x:Str) (t:Tok):(mixKind prog w).is (.inr x) (.str x t)=true:=keyIs_str x t
end L2
namespace L2
open PySem PySem.Spec PyProof.Rows
inductive V where
  | non | bl (b:Bool) | int (i:Int) | str (x:Str) | byt (b:Array UInt8) | flt (b:UInt64) | ref (a:Addr) | ty (n:String)
  deriving DecidableEq
noncomputable def RelV:V→Value→Prop
  | .non,u=>u=Value.none
  | .bl b,u=>u=Value.bool b
  | .int i,u=>∃ t,u=Value.int i t
  | .str x,u=>∃ t,u=Value.str x t
  | .byt b,u=>∃ t,u=Value.bytes b t
  | .flt b,u=>∃ t,u=Value.float b t
  | .ref a,u=>u=Value.ref a
  | .ty n,u=>u=Value.type n
noncomputable abbrev Vals:List V→List Value→Prop:=Paired RelV
theorem Vals.length {xs:List V} {us:List Value} (r:Vals xs us):xs.length=us.length:=Paired.length r
theorem Vals.get:∀ {xs:List V} {us:List Value} {i:Nat} {x:V},Vals xs us→xs[i]?=some x→∃ u,us[i]?=some u∧RelV x u
  | _,_,_,_,.nil,e=>by simp at e
  | _,_,0,_,.cons r _,e=>by simp at e;subst e;exact ⟨_,rfl,r⟩
  | _,_,i+1,x,.cons _ t,e=>by
    obtain ⟨u,h1,h2⟩:=Vals.get (i:=i) (x:=x) t (by simpa using e)
    exact ⟨u,by simpa using h1,h2⟩
theorem Vals.set {x:V} {u:Value} (r:RelV x u):∀ {xs:List V} {us:List Value} (i:Nat),Vals xs us→Vals (xs.set i x) (us.set i u)
  | _,_,_,.nil=>.nil
  | _,_,0,.cons _ t=>.cons r t
  | _,_,i+1,.cons q t=>.cons q (Vals.set r i t)
theorem Vals.append {xs ys:List V} {us ws:List Value} (a:Vals xs us) (b:Vals ys ws):Vals (xs++ys) (us++ws):=by
  induction a with
  | nil=>exact b
  | cons r _ ih=>exact .cons r ih
theorem Vals.take:∀ {xs:List V} {us:List Value} (n:Nat),Vals xs us→Vals (xs.take n) (us.take n)
  | _,_,0,_=>.nil
  | _,_,_+1,.nil=>.nil
  | _,_,n+1,.cons r t=>.cons r (Vals.take n t)
theorem Vals.drop:∀ {xs:List V} {us:List Value} (n:Nat),Vals xs us→Vals (xs.drop n) (us.drop n)
  | _,_,0,r=>r
  | _,_,_+1,.nil=>.nil
  | _,_,n+1,.cons _ t=>Vals.drop n t
theorem Vals.none_of:∀ {xs:List V} {us:List Value} {i:Nat},Vals xs us→xs[i]?=none→us[i]?=none:=fun {xs us i} r e=>by
  have h1:=r.length
  have h2:xs.length≤i:=List.getElem?_eq_none_iff.mp e
  exact List.getElem?_eq_none_iff.mpr (by omega)
noncomputable def RelO:Option V→Option Value→Prop
  | some v,some u=>RelV v u
  | none,none=>True
  | _,_=>False
noncomputable def KV {κ:Type}:List (κ×V)→List (κ×Value)→Prop:=Paired fun (p:κ×V) (q:κ×Value)=>p.1=q.1∧RelV p.2 q.2
noncomputable def kV:Key→V
  | .inl i=>.int i
  | .inr x=>.str x
inductive HO where
  /-- a list -/
  | lst (xs:List V)
  /-- a tuple (never changes) -/
  | tup (xs:List V)
  /-- a dict whose keys are ints and texts; one whose keys are tuples of ints and texts (the empty one is both) -/
  | dK (kvs:List (Key×V)) | dT (kvs:List (List Key×V))
  /-- a set of ints: its members, its size -/
  | set (S:Int→Bool) (n:Nat)
  /-- an instance of the class at C, its dict at dx, its attributes -/
  | ins (C dx:Addr) (fs:List (Str×V))
  /-- the dict of the instance at x -/
  | own (x:Addr)
  /-- the dict of an exception -/
  | xd (fs:List (Str×V))
  /-- a bound method, f of x -/
  | met (f x:Addr)
  /-- a range object lo, lo + 1, .. below hi -/
  | rng (lo hi:Int)
  /-- a thing that is known to the object (the script; a dict while a loop walks it): read, never written while it is so -/
  | frz (o:Obj) (u:HO)
  /-- a code object's table -/
  | tbl (ps:Array Value)
  /-- any other thing, by what is true of its one object (a def of one's own: SetO a S n := HO.ext fun h => ..) -/
  | ext (φ:Heap→Prop)
noncomputable abbrev Hp:=Addr→Option HO
noncomputable def upd (H:Hp) (a:Addr) (o:HO):Hp:=fun b=>if b=a then some o else H b
theorem upd_same {H:Hp} {a:Addr} {o:HO}:upd H a o a=some o:=by unfold upd;rw [if_pos rfl]
theorem upd_ne {H:Hp} {a b:Addr} {o:HO} (h:b≠a):upd H a o b=H b:=by unfold upd;rw [if_neg h]
theorem ne_of {H:Hp} {a b:Addr} {o u:HO} (h:H a=some o) (h':H b=some u) (d:o≠u):a≠b:=by
  intro e;subst e;rw [h] at h';exact d (Option.some.inj h')
theorem ne_of_none {H:Hp} {a b:Addr} {o:HO} (h:H a=some o) (h':H b=none):a≠b:=by
  intro e;subst e;rw [h] at h';cases h'
section
variable (P:Program) (w:World)
noncomputable def ObjOk (H:Hp) (h:Heap) (a:Addr):HO→Prop
  | .lst xs=>xs.length≤sizeLine∧∃ (its:List Value) (n:Nat),Vals xs its∧h.get? a=some {cls:=.type "list",data:=.seq its.toArray n}
  | .tup xs=>xs.length≤sizeLine∧∃ its:List Value,Vals xs its∧IsTup h a its.toArray
  | .dK kvs=>kvs.length≤sizeLine∧(a==sysModules)=false∧∃ vs,KV kvs vs∧h.DictOf (mixKind P w) a vs
  | .dT kvs=>kvs.length≤sizeLine∧(a==sysModules)=false∧∃ xs:List (List Key×Addr×Value),
      Paired (fun (p:List Key×V) (q:List Key×Addr×Value)=>p.1=q.1∧H q.2.1=some (.tup (p.1.map kV))∧RelV p.2 q.2.2) kvs xs∧
      ∃ o es ep,h.get? a=some o∧o.ExactDict∧o.data=.dict es ep∧es.toList=xs.map (entryOfKey (tupleKind (mixKind P w)))∧(xs.map (·.1)).Nodup
  | .set S n=>h.SetOf (intKind P w) a S n
  | .ins C dx fs=>H dx=some (.own a)∧fs.length≤1000∧dx≠a∧h.get? a=some (PySem.W.instObj C dx)∧
      ∃ mA,h.Ns1 dx mA∧(∀ f,RelO (fs.lookup f) (mA f))∧PySem.Within mA (fs.map (·.1))
  | .own _=>∃ o,h.get? a=some o
  | .xd fs=>∃ mA,h.Ns1 a mA∧∀ f,RelO (fs.lookup f) (mA f)
  | .rng lo hi=>∃ t u v,h.get? a=some {cls:=.type "range",data:=.fields #[.int lo t,.int hi u,.int 1 v]}
  | .frz o u=>h.get? a=some o∧ObjOk H h a u
  | .tbl ps=>h.get? a=some {cls:=.none,data:=.fields ps}
  | .met f x=>h.get? a=some (PySem.W.methodObj (.ref f) (.ref x))
  | .ext φ=>φ h∧(∃ o,h.get? a=some o)∧∀ h1 h2:Heap,φ h1→(∀ o,h1.get? a=some o→h2.get? a=some o)→φ h2
noncomputable def HOk (H:Hp) (h:Heap):Prop:=∀ a o,H a=some o→ObjOk P w H h a o
end
section
variable {P:Program} {w:World} {H H':Hp} {h h':Heap} {a:Addr} {o:HO}
theorem ObjOk.lt (x:ObjOk P w H h a o):a<h.objs.size:=by
  cases o with
  | lst xs=>obtain ⟨_,_,_,_,e⟩:=x;exact Heap.lt_size e
  | tup xs=>obtain ⟨_,_,_,p⟩:=x;exact p.lt
  | dK kvs=>obtain ⟨_,_,_,_,o,_,_,e,_⟩:=x;exact Heap.lt_size e
  | dT kvs=>obtain ⟨_,_,_,_,o,_,_,e,_⟩:=x;exact Heap.lt_size e
  | set S n=>obtain ⟨o,_,_,_,e,_⟩:=x;exact Heap.lt_size e
  | ins C dx fs=>obtain ⟨_,_,_,e,_⟩:=x;exact Heap.lt_size e
  | own y=>obtain ⟨_,e⟩:=x;exact Heap.lt_size e
  | xd fs=>obtain ⟨_,⟨_,_,_,e,_⟩,_⟩:=x;exact Heap.lt_size e
  | rng lo hi=>obtain ⟨_,_,_,e⟩:=x;exact Heap.lt_size e
  | frz ob u=>obtain ⟨e,_⟩:=x;exact Heap.lt_size e
  | tbl ps=>exact Heap.lt_size (show h.get? a=some _ from x)
  | met f y=>exact Heap.lt_size (show h.get? a=some _ from x)
  | ext φ=>obtain ⟨_,⟨_,e⟩,_⟩:=x;exact Heap.lt_size e
theorem Paired.mapP {α β:Type} {F G:α→β→Prop} {l₁:List α} {l₂:List β} (h:Paired F l₁ l₂) (f:∀ a b,F a b→G a b):Paired G l₁ l₂:=by
  induction h with
  | nil=>exact .nil
  | cons r _ ih=>exact .cons (f _ _ r) ih
theorem ObjOk.stay (x:ObjOk P w H h a o) (k:∀ b u,(b=a∨H b=some (.own a))→h.get? b=some u→h'.get? b=some u)
    (ho:∀ b,H b=some (.own a)→H' b=some (.own a)) (ht:∀ b xs,H b=some (.tup xs)→H' b=some (.tup xs)):ObjOk P w H' h' a o:=by
  induction o with
  | lst xs=>obtain ⟨z,its,n,r,e⟩:=x;exact ⟨z,its,n,r,k _ _ (.inl rfl) e⟩
  | tup xs=>obtain ⟨z,its,r,ob,e,c⟩:=x;exact ⟨z,its,r,ob,k _ _ (.inl rfl) e,c⟩
  | dK kvs=>obtain ⟨z,y,vs,r,ob,es,ep,e,c⟩:=x;exact ⟨z,y,vs,r,ob,es,ep,k _ _ (.inl rfl) e,c⟩
  | dT kvs =>
    obtain ⟨z,y,xs,r,ob,es,ep,e,c⟩:=x
    exact ⟨z,y,xs,Paired.mapP r fun p q z=>⟨z.1,ht _ _ z.2.1,z.2.2⟩,ob,es,ep,k _ _ (.inl rfl) e,c⟩
  | set S n=>obtain ⟨ob,es,ep,t,e,c⟩:=x;exact ⟨ob,es,ep,t,k _ _ (.inl rfl) e,c⟩
  | ins C dx fs =>
    obtain ⟨d,z,ne,e,mA,⟨od,es,ep,e2,c⟩,r⟩:=x
    exact ⟨ho _ d,z,ne,k _ _ (.inl rfl) e,mA,⟨od,es,ep,k _ _ (.inr d) e2,c⟩,r⟩
  | own y=>obtain ⟨ob,e⟩:=x;exact ⟨ob,k _ _ (.inl rfl) e⟩
  | xd fs=>obtain ⟨mA,⟨od,es,ep,e,c⟩,r⟩:=x;exact ⟨mA,⟨od,es,ep,k _ _ (.inl rfl) e,c⟩,r⟩
  | rng lo hi=>obtain ⟨t,u,v,e⟩:=x;exact ⟨t,u,v,k _ _ (.inl rfl) e⟩
  | frz ob u ih=>obtain ⟨e,q⟩:=x;exact ⟨k _ _ (.inl rfl) e,ih q⟩
  | tbl ps =>
    have e:h.get? a=some {cls:=.none,data:=.fields ps}:=x
    show h'.get? a=some {cls:=.none,data:=.fields ps}
    exact k a _ (.inl rfl) e
  | met f y =>
    have e:h.get? a=some (PySem.W.methodObj (.ref f) (.ref y)):=x
    show h'.get? a=some (PySem.W.methodObj (.ref f) (.ref y))
    exact k a _ (.inl rfl) e
  | ext φ=>obtain ⟨p,⟨o,e⟩,st⟩:=x;exact ⟨st _ _ p fun o q=>k _ _ (.inl rfl) q,⟨o,k _ _ (.inl rfl) e⟩,st⟩
theorem HOk.lt (x:HOk P w H h) (e:H a=some o):a<h.objs.size:=(x a o e).lt
theorem HOk.fresh (x:HOk P w H h) (e:h.objs.size≤a):H a=none:=by
  cases q:H a with
  | none=>rfl
  | some u=>exact absurd (Nat.lt_of_lt_of_le (x.lt q) e) (Nat.lt_irrefl _)
theorem HOk.kept (x:HOk P w H h) (k:∀ b u,h.get? b=some u→h'.get? b=some u):HOk P w H h':=fun a o e =>
  (x a o e).stay (fun b u _ q=>k b u q) (fun _ q=>q) fun _ _ q=>q
theorem HOk.laid (x:HOk P w H h) (k:∀ b u,h.get? b=some u→h'.get? b=some u) (hp:h.objs.size≤a) (new:ObjOk P w (upd H a o) h' a o):HOk P w (upd H a o) h':=fun b u e=>by
  have hn:=x.fresh hp
  by_cases hb:b=a
  · subst hb;rw [upd_same] at e;cases e;exact new
  · rw [upd_ne hb] at e
    exact (x b u e).stay (fun c v _ q=>k c v q) (fun c q=>by rw [upd_ne (ne_of_none q hn)];exact q) fun c xs q=>by rw [upd_ne (ne_of_none q hn)];exact q
end
noncomputable def Rd (H:Hp) (a:Addr) (u:HO):Prop:=H a=some u∨∃ o,H a=some (.frz o u)
theorem Rd.ok {P:Program} {w:World} {H:Hp} {h:Heap} {a:Addr} {u:HO} (r:Rd H a u) (x:HOk P w H h):ObjOk P w H h a u:=by
  rcases r with r | ⟨o,r⟩
  · exact x a u r
  · obtain ⟨_,q⟩:=x a _ r
    exact q
noncomputable def Mut:Option HO→Prop
  | some (.lst _)=>True
  | some (.dK _)=>True
  | some (.dT _)=>True
  | some (.set _ _)=>True
  | some (.ins _ _ _)=>True
  | some (.ext _)=>True
  | _=>False
section
variable {P:Program} {w:World} {H:Hp} {h h':Heap} {x e:Addr} {o':HO}
theorem HOk.write (ok:HOk P w H h) (mu:Mut (H x)) (he:e=x∨H e=some (.own x)) (k:∀ b u,b≠e→h.get? b=some u→h'.get? b=some u) (heo:∃ u,h'.get? e=some u)
    (new:ObjOk P w (upd H x o') h' x o'):HOk P w (upd H x o') h':=fun b u q=>by
  have nown:∀ c y,H c=some (.own y)→c≠x:=fun c y r z=>by subst z;rw [r] at mu;exact mu
  have ntup:∀ c xs,H c=some (.tup xs)→c≠x:=fun c xs r z=>by subst z;rw [r] at mu;exact mu
  by_cases hb:b=x
  · subst hb;rw [upd_same] at q;cases q;exact new
  · rw [upd_ne hb] at q
    by_cases hbe:b=e
    · have q':H b=some (.own x):=by
        rcases he with z | z
        · exact absurd (hbe.trans z) hb
        · rw [hbe];exact z
      rw [q] at q';cases q'
      obtain ⟨v,hv⟩:=heo
      exact ⟨v,by rw [hbe];exact hv⟩
    · refine (ok b u q).stay (fun c v hc r=>k c v ?_ r) (fun c r=>by rw [upd_ne (nown c b r)];exact r) fun c xs r=>by rw [upd_ne (ntup c xs r)];exact r
      rcases hc with rfl | hc
      · exact hbe
      · rintro rfl
        rcases he with z | z
        · exact nown c b hc z
        · rw [hc] at z;cases z;exact hb rfl
end
structure Un (fs ex:List Addr) (H H':Hp) (h h':Heap):Prop where
  keep:∀ b o,h.get? b=some o→H b=none→b∉fs→b∉ex→h'.get? b=some o
  slot:∀ b o,h.get? b=some o→H b=none→b∈fs→b∉ex→∃ sl,h'.get? b=some {o with slots:=sl}
  free:∀ b o,h.get? b=some o→H b=none→b∉ex→H' b=none
  there:∀ b o,h.get? b=some o→b∉ex→∃ o',h'.get? b=some o'
  tups:∀ b xs,H b=some (.tup xs)→H' b=some (.tup xs)
  frzs:∀ b o u,H b=some (.frz o u)→H' b=some (.frz o u)
  tbls:∀ b ps,H b=some (.tbl ps)→∃ more,H' b=some (.tbl (ps++more))
section
variable {fs fs' ex ex':List Addr} {H H1 H2:Hp} {h h1 h2 h':Heap} {a x e:Addr} {o:HO}
theorem Un.any (u:Un fs ex H H1 h h1) {b:Addr} {ob:Obj} (q:h.get? b=some ob) (n:H b=none) (hx:b∉ex):∃ sl,h1.get? b=some {ob with slots:=sl}:=by
  by_cases hb:b∈fs
  · exact u.slot b ob q n hb hx
  · exact ⟨ob.slots,u.keep b ob q n hb hx⟩
theorem Un.kept (k:∀ b u,h.get? b=some u→h'.get? b=some u):Un fs ex H H h h' :=
  ⟨fun b ob q _ _ _=>k b ob q,fun b ob q _ _ _=>⟨ob.slots,k b ob q⟩,fun _ _ _ n _=>n,fun b ob q _=>⟨ob,k b ob q⟩,fun _ _ q=>q,fun _ _ _ q=>q,fun _ ps q=>⟨#[],by rw [q];simp⟩⟩
theorem Un.refl:Un fs ex H H h h:=Un.kept fun _ _ q=>q
theorem Un.laid (k:∀ b u,h.get? b=some u→h'.get? b=some u) (hp:h.objs.size≤a) (hn:H a=none):Un fs ex H (upd H a o) h h' where
  keep:=fun b u q _ _ _=>k b u q
  slot:=fun b u q _ _ _=>⟨u.slots,k b u q⟩
  free:=fun b u q n _=>by rw [upd_ne (Nat.ne_of_lt (Nat.lt_of_lt_of_le (Heap.lt_size q) hp))];exact n
  there:=fun b u q _=>⟨u,k b u q⟩
  tups:=fun b xs q=>by rw [upd_ne (ne_of_none q hn)];exact q
  frzs:=fun b u xs q=>by rw [upd_ne (ne_of_none q hn)];exact q
  tbls:=fun b ps q=>⟨#[],by rw [upd_ne (ne_of_none q hn),q];simp⟩
theorem Un.write (mu:Mut (H x)) (he:e=x∨H e=some (.own x)) (k:∀ b u,b≠e→h.get? b=some u→h'.get? b=some u) (heo:∃ u,h'.get? e=some u):Un fs ex H (upd H x o) h h':=by
  have hx:∀ b,H b=none→b≠x:=fun b n z=>by subst z;rw [n] at mu;exact mu
  have hb:∀ b,H b=none→b≠e:=fun b n z=>by
    subst z
    rcases he with r | r
    · exact hx b n r
    · rw [n] at r;cases r
  have hm:∀ b u,H b=some u→¬ Mut (some u)→b≠x:=fun b u q nm z=>by subst z;rw [q] at mu;exact nm mu
  refine ⟨fun b u q n _ _=>k b u (hb b n) q,fun b u q n _ _=>⟨u.slots,k b u (hb b n) q⟩,fun b u q n _=>by rw [upd_ne (hx b n)];exact n,fun b u q _=>?_,
    fun b xs q=>by rw [upd_ne (hm b _ q fun z=>z)];exact q,fun b u xs q=>by rw [upd_ne (hm b _ q fun z=>z)];exact q,fun b ps q=>⟨#[],by rw [upd_ne (hm b _ q fun z=>z),q];simp⟩⟩
  by_cases hbe:b=e
  · subst hbe;exact heo
  · exact ⟨u,k b u hbe q⟩
end
noncomputable def trk (h:Heap) (H:Hp):List Addr:=(List.range h.objs.size).filter fun a=>(H a).isSome
noncomputable def hidT (h:Heap) (H:Hp):Heap:=PySem.W.hideAll h (trk h H)
theorem hidT_size (h:Heap) (H:Hp):(hidT h H).objs.size=h.objs.size:=PySem.W.hideAll_size _ _
theorem hidT_get {h:Heap} {H:Hp} {b:Addr} {o:Obj} (e:h.get? b=some o) (n:H b=none):(hidT h H).get? b=some o :=
  PySem.W.hideAll_get _ e fun hm=>by
    have q:(H b).isSome=true:=(List.mem_filter.mp hm).2
    rw [n] at q;simp at q
theorem of_hidT {h:Heap} {H:Hp} {b:Addr} {o:Obj} (e:(hidT h H).get? b=some o):h.get? b=some o∧H b=none:=by
  have e':h.get? b=some o:=PySem.W.of_hideAll (trk h H) e
  refine ⟨e',?_⟩
  cases q:H b with
  | none=>rfl
  | some x =>
    have hm:b∈trk h H:=List.mem_filter.mpr ⟨List.mem_range.mpr (Heap.lt_size e'),by simp [q]⟩
    have z:(hidT h H).get? b=none:=PySem.W.hideAll_none (trk h H) hm
    rw [z] at e;cases e
noncomputable def allNews (g h:Heap) (L:Addr):List (Addr×Obj):=(List.range h.objs.size).filterMap fun a=>if a=L∨(g.get? a).isSome=true then none else (h.get? a).map fun o=>(a,o)
noncomputable def rest (g h:Heap) (L d:Addr):List (Addr×Obj):=(allNews g h L).filter fun p=>decide (p.1≠d)
end L2
namespace L2
open PySem PySem.Spec PyProof.Rows
structure Mod (K:PySem.W.Frag) (mg:Str→Option Value) (base:Heap):Prop where
  kin:K.In base
  glob:base.Ns mainGlobals mg
  blt:∃ mb,base.Ns builtinsNs mb∧∀ x:Str,x≠"__name__"→mb x=bootBuiltins x
  nolimit:base.NoLimit
structure Cx where
  prog:Program
  w:World
  K:PySem.W.Frag
  mg:Str→Option Value
  base:Heap
  A:Around
  N:List Str
  s₀:Shared
  H₀:Hp
  env:Env
  outer:List Env
  stack:List Env
  ex:List Addr
  fn:Str→Bool
  calm:Bool
  pn:List (Addr×Obj)
  xe:Value→Shared→Prop
noncomputable def frs (l:List Env):List Addr:=l.filterMap (·.frame)
noncomputable abbrev Cx.fs (X:Cx):List Addr:=frs X.outer
noncomputable def Vis (sc:Scope) (x:Str):Prop:=sc.names.lookup x=some .local∨sc.names.lookup x=some .cell∨sc.names.lookup x=some .free
noncomputable def Loc (sc:Scope) (x:Str):Prop:=sc.names.lookup x=some .local∨sc.names.lookup x=some .cell
noncomputable def Look (env:Env) (h:Heap) (m:Str→Option Value) (x:Str) (u:Value):Prop :=
  (env.kindOf x=some .local∧m x=some u)∨((env.kindOf x=some .cell∨env.kindOf x=some .free)∧∃ c,env.cells.lookup x=some c∧h.IsCell c (some u))
structure Cx.Ok (X:Cx):Prop where
  mod:Mod X.K X.mg X.base
  kind:X.env.scope.kind=.function
  glob:X.env.globals=mainGlobals
  blt:X.env.builtins=builtinsNs
  above:X.s₀.heap.objs.size≤X.env.locals
  inj:∀ x y c,X.env.cells.lookup x=some c→X.env.cells.lookup y=some c→x=y
  has:∀ x,(X.env.kindOf x=some .cell∨X.env.kindOf x=some .free)→∃ c,X.env.cells.lookup x=some c
  cab:∀ x c,X.fn x=true→X.env.cells.lookup x=some c→X.s₀.heap.objs.size≤c
  hd:X.calm=true→X.A.handled=none
  frames:X.A.frames=some X.stack
  stk:X.stack=X.outer∨(X.stack=X.env::X.outer∧X.env.frame=some X.env.locals)
  exf:∀ b∈X.ex,b≠X.env.locals∧∀ x c,X.env.cells.lookup x=some c→c≠b
  bs:∀ b o,X.base.get? b=some o→X.s₀.heap.get? b=some o∧X.H₀ b=none
  bsz:X.base.objs.size≤X.s₀.heap.objs.size
  noex:∀ b o,X.base.get? b=some o→b∉X.ex
  exfs:∀ b∈X.ex,b∉X.fs
  funs:X.s₀.heap.FunFrames X.base X.outer
  frf:∀ b∈X.fs,X.H₀ b=none
structure Inv (X:Cx) (pins:List (Addr×Obj)) (σ:List (Option V)) (H:Hp) (s:Shared):Prop where
  ok:X.Ok
  os:s.os=X.s₀.os
  bare:AllBare s.gens
  base:Un X.fs X.ex X.H₀ H X.s₀.heap s.heap
  loc:∃ m,s.heap.Ns X.env.locals m∧∀ (i:Nat) (x:Str) (v:V),X.N[i]?=some x→σ[i]?=some (some v)→Vis X.env.scope x→∃ u,RelV v u∧Look X.env s.heap m x u
  cell:∀ x c,X.env.cells.lookup x=some c→∃ v,s.heap.IsCell c v
  free:H X.env.locals=none
  freeC:∀ x c,X.env.cells.lookup x=some c→H c=none
  pin:∀ p∈X.pn++pins,s.heap.get? p.1=some p.2∧H p.1=none∧p.1≠X.env.locals∧p.1∉X.fs∧∀ v,p.2.data≠.cell v
  hok:HOk X.prog X.w H s.heap
  len:σ.length=X.N.length
section
variable {X:Cx} {pins:List (Addr×Obj)} {σ:List (Option V)} {H H':Hp} {s:Shared} {h':Heap}
theorem Cx.Ok.nofr (ok:X.Ok) {b:Addr} {o:Obj} (e:X.base.get? b=some o):b∉X.fs:=fun hb=>by
  have:=(ok.funs.mem hb).1
  rw [e] at this;cases this
theorem Inv.bs (I:Inv X pins σ H s):∀ b o,X.base.get? b=some o→s.heap.get? b=some o∧H b=none:=fun b o e =>
  ⟨I.base.keep b o (I.ok.bs b o e).1 (I.ok.bs b o e).2 (I.ok.nofr e) (I.ok.noex b o e),I.base.free b o (I.ok.bs b o e).1 (I.ok.bs b o e).2 (I.ok.noex b o e)⟩
theorem Inv.bk (I:Inv X pins σ H s):∀ b o,X.base.get? b=some o→s.heap.get? b=some o:=fun b o e=>(I.bs b o e).1
theorem Inv.mod (I:Inv X pins σ H s):Mod X.K X.mg X.base:=I.ok.mod
theorem Inv.kIn (I:Inv X pins σ H s):X.K.In s.heap:=I.ok.mod.kin.keeps I.bk
theorem Inv.fr (I:Inv X pins σ H s):∃ m,Fr X.base X.env.locals s.heap m :=
  let ⟨m,hn,_⟩:=I.loc
  ⟨m,hn,I.bk,Nat.le_trans I.ok.bsz I.ok.above⟩
theorem Inv.lt (I:Inv X pins σ H s):X.env.locals<s.heap.objs.size:=let ⟨_,hn,_⟩:=I.loc;hn.lt
theorem Inv.sz (I:Inv X pins σ H s):X.s₀.heap.objs.size≤s.heap.objs.size:=Nat.le_trans I.ok.above (Nat.le_of_lt I.lt)
theorem Inv.nofs (I:Inv X pins σ H s) {a:Addr} (h:s.heap.objs.size≤a):a∉X.fs:=fun hb=>by
  obtain ⟨_,o,ho,_⟩:=I.ok.funs.mem hb
  exact absurd (Nat.lt_of_lt_of_le (Heap.lt_size ho) (Nat.le_trans I.sz h)) (Nat.lt_irrefl _)
theorem Inv.cne (I:Inv X pins σ H s):∀ x c,X.env.cells.lookup x=some c→c≠X.env.locals:=fun x c e z=>by
  obtain ⟨v,o,ho,hd⟩:=I.cell x c e
  obtain ⟨m,⟨o',es,ep,ho',hd',_⟩,_⟩:=I.loc
  rw [z,ho'] at ho;cases ho;rw [hd'] at hd;cases hd
theorem Inv.funs (I:Inv X pins σ H s):s.heap.FunFrames X.base X.outer:=by
  have all:∀ (l:List Env),(∀ b∈frs l,b∈X.fs)→X.s₀.heap.FunFrames X.base l→s.heap.FunFrames X.base l:=by
    intro l
    induction l with
    | nil=>intro _ _;trivial
    | cons env r ih =>
      intro hs hl
      obtain ⟨hk,⟨L,o,hf,hn,ho,hd⟩,hr⟩:=hl
      have hL:L∈X.fs:=hs L (by unfold frs;rw [List.filterMap_cons,hf];exact List.mem_cons_self)
      obtain ⟨sl,e⟩:=I.base.slot L o ho (I.ok.frf L hL) hL fun z=>I.ok.exfs L z hL
      exact ⟨hk,⟨L,_,hf,hn,e,hd⟩,ih (fun b hb=>hs b (by unfold frs;rw [List.filterMap_cons,hf];exact List.mem_cons_of_mem _ hb)) hr⟩
  exact all X.outer (fun _ hb=>hb) I.ok.funs
theorem Inv.stack (I:Inv X pins σ H s):s.heap.FunFrames X.base X.stack:=by
  rcases I.ok.stk with e | ⟨e,hf⟩
  · rw [e];exact I.funs
  · rw [e]
    obtain ⟨m,hn,_⟩:=I.loc
    refine .cons (by rw [I.ok.kind];decide) hf hn ?_ I.funs
    exact Heap.get?_none_of_le (Nat.le_trans I.ok.bsz I.ok.above)
theorem Inv.stkSub (I:Inv X pins σ H s):∀ b∈frs X.stack,b∈X.env.locals::X.fs:=fun b hb=>by
  rcases I.ok.stk with e | ⟨e,hf⟩
  · rw [e] at hb;exact List.mem_cons_of_mem _ hb
  · rw [e] at hb
    unfold frs at hb
    rw [List.filterMap_cons,hf] at hb
    exact hb
theorem Inv.stkFree (I:Inv X pins σ H s):∀ b∈frs X.stack,H b=none:=fun b hb=>by
  rcases List.mem_cons.mp (I.stkSub b hb) with e | hb
  · rw [e];exact I.free
  · obtain ⟨_,o,ho,_⟩:=I.ok.funs.mem hb
    exact I.base.free b o ho (I.ok.frf b hb) fun z=>I.ok.exfs b z hb
theorem Inv.step {g':Array GenState} {t':Nat} {d':Drawn} {ch:List Addr} (I:Inv X pins σ H s)
    (hch:∀ b∈ch,(b∈X.ex∨X.s₀.heap.objs.size≤b)∧b≠X.env.locals∧(∀ x c,X.env.cells.lookup x=some c→c≠b)∧∀ p∈X.pn++pins,p.1≠b)
    (keep:∀ b o,b≠X.env.locals→b∉X.fs→b∉ch→s.heap.get? b=some o→H b=none→h'.get? b=some o)
    (slot:∀ b o,b≠X.env.locals→b∈X.fs→b∉ch→s.heap.get? b=some o→H b=none→∃ sl,h'.get? b=some {o with slots:=sl}) (free:∀ b o,b∉ch→s.heap.get? b=some o→H b=none→H' b=none)
    (there:∀ b o,b∉ch→s.heap.get? b=some o→∃ o',h'.get? b=some o')
    (tups:∀ b xs,H b=some (.tup xs)→H' b=some (.tup xs)) (frzs:∀ b o u,H b=some (.frz o u)→H' b=some (.frz o u)) (tbls:∀ b ps,H b=some (.tbl ps)→∃ more,H' b=some (.tbl (ps++more)))
    (ns:∀ m,s.heap.Ns X.env.locals m→h'.Ns X.env.locals m) (hok:HOk X.prog X.w H' h') (hg:AllBare g') :
    Inv X pins σ H' {s with heap:=h',gens:=g',drawn:=d',toks:=t'}:=by
  have neL:∀ b o,X.s₀.heap.get? b=some o→b≠X.env.locals:=fun b o e=>Nat.ne_of_lt (Nat.lt_of_lt_of_le (Heap.lt_size e) I.ok.above)
  have neC:∀ b o,X.s₀.heap.get? b=some o→b∉X.ex→b∉ch:=fun b o e hx hb=>by
    rcases (hch b hb).1 with z | z
    · exact hx z
    · exact absurd (Nat.lt_of_lt_of_le (Heap.lt_size e) z) (Nat.lt_irrefl _)
  have cellK:∀ x c,X.env.cells.lookup x=some c→∀ v,s.heap.IsCell c v→h'.IsCell c v:=fun x c e v ⟨o,ho,hd⟩=>by
    have nch:c∉ch:=fun z=>(hch c z).2.2.1 x c e rfl
    by_cases hc:c∈X.fs
    · obtain ⟨sl,q⟩:=slot c o (I.cne x c e) hc nch ho (I.freeC x c e)
      exact ⟨_,q,hd⟩
    · exact ⟨o,keep c o (I.cne x c e) hc nch ho (I.freeC x c e),hd⟩
  refine ⟨I.ok,I.os,hg,⟨fun b o e n hb hx=>?_,fun b o e n hb hx=>?_,fun b o e n hx=>?_,fun b o e hx=>?_,fun b xs e=>tups b xs (I.base.tups b xs e),fun b o xs e=>frzs b o xs (I.base.frzs b o xs e),fun b ps e=>?_⟩,?_,fun x c e=>?_,?_,fun x c e=>?_,fun p hp=>?_,hok,I.len⟩
  · exact keep b o (neL b o e) hb (neC b o e hx) (I.base.keep b o e n hb hx) (I.base.free b o e n hx)
  · obtain ⟨sl,e1⟩:=I.base.slot b o e n hb hx
    obtain ⟨sl',e2⟩:=slot b _ (neL b o e) hb (neC b o e hx) e1 (I.base.free b o e n hx)
    exact ⟨sl',e2⟩
  · obtain ⟨o',e1⟩:=I.base.there b o e hx
    exact free b o' (neC b o e hx) e1 (I.base.free b o e n hx)
  · obtain ⟨o',e1⟩:=I.base.there b o e hx
    exact there b o' (neC b o e hx) e1
  · obtain ⟨m1,e1⟩:=I.base.tbls b ps e
    obtain ⟨m2,e2⟩:=tbls b _ e1
    exact ⟨m1++m2,by rw [e2,Array.append_assoc]⟩
  · obtain ⟨m,hn,hl⟩:=I.loc
    refine ⟨m,ns m hn,fun i x v e1 e2 e3=>?_⟩
    obtain ⟨u,r,l⟩:=hl i x v e1 e2 e3
    refine ⟨u,r,?_⟩
    rcases l with l | ⟨k,c,e,z⟩
    · exact .inl l
    · exact .inr ⟨k,c,e,cellK x c e _ z⟩
  · obtain ⟨v,z⟩:=I.cell x c e
    exact ⟨v,cellK x c e v z⟩
  · obtain ⟨m,⟨o,_,_,ho,_⟩,_⟩:=I.loc
    exact free _ o (fun z=>(hch _ z).2.1 rfl) ho I.free
  · obtain ⟨v,o,ho,hd⟩:=I.cell x c e
    exact free c o (fun z=>(hch c z).2.2.1 x c e rfl) ho (I.freeC x c e)
  · obtain ⟨e,n,ne,nf,d⟩:=I.pin p hp
    have nch:p.1∉ch:=fun z=>(hch p.1 z).2.2.2 p hp rfl
    exact ⟨keep p.1 p.2 ne nf nch e n,free p.1 p.2 nch e n,ne,nf,d⟩
theorem Inv.un {t':Nat} (I:Inv X pins σ H s) (u:Un X.fs [] H H' s.heap h') (hok:HOk X.prog X.w H' h'):Inv X pins σ H' {s with heap:=h',toks:=t'}:=by
  obtain ⟨m,⟨o,es,ep,ho,r⟩,_⟩:=id I.loc
  obtain ⟨sl,hL⟩:=u.any ho I.free (by simp)
  exact I.step (g':=s.gens) (d':=s.drawn) (ch:=[]) (fun _ z=>nomatch z) (fun b o _ hb _ e n=>u.keep b o e n hb (by simp)) (fun b o _ hb _ e n=>u.slot b o e n hb (by simp)) (fun b o _ e n=>u.free b o e n (by simp)) (fun b o _ e=>u.there b o e (by simp)) u.tups u.frzs u.tbls (fun m' hm=>by
    obtain ⟨o',es',ep',ho',r'⟩:=hm
    rw [ho] at ho';cases ho'
    exact ⟨_,es',ep',hL,r'⟩) hok I.bare
theorem Inv.call {g':Array GenState} {t':Nat} {d':Drawn} {ch:List Addr} (I:Inv X pins σ H s) (u:Un (frs X.stack) ch H H' s.heap h') (hok:HOk X.prog X.w H' h') (hg:AllBare g')
    (hch:∀ b∈ch,(b∈X.ex∨X.s₀.heap.objs.size≤b)∧b≠X.env.locals∧(∀ x c,X.env.cells.lookup x=some c→c≠b)∧∀ p∈X.pn++pins,p.1≠b) :
    Inv X pins σ H' {s with heap:=h',gens:=g',drawn:=d',toks:=t'}:=by
  obtain ⟨m,⟨o,es,ep,ho,r⟩,_⟩:=id I.loc
  obtain ⟨sl,hL⟩:=u.any ho I.free fun z=>(hch _ z).2.1 rfl
  exact I.step (ch:=ch) hch (fun b o hL hb hc e n=>u.keep b o e n (fun z=>(List.mem_cons.mp (I.stkSub b z)).elim hL hb) hc) (fun b o _ _ hc e n=>u.any e n hc) (fun b o hc e n=>u.free b o e n hc) (fun b o hc e=>u.there b o e hc) u.tups u.frzs u.tbls (fun m' hm=>by
    obtain ⟨o',es',ep',ho',r'⟩:=hm
    rw [ho] at ho';cases ho'
    exact ⟨_,es',ep',hL,r'⟩) hok hg
theorem Inv.turned {t':Nat} {it:Addr} (I:Inv X pins σ H s) (k:∀ b o,b≠it→s.heap.get? b=some o→h'.get? b=some o) (hn:H it=none) (hL:it≠X.env.locals)
    (h1:it∈X.ex∨X.s₀.heap.objs.size≤it) (h2:∀ x c,X.env.cells.lookup x=some c→c≠it) (h3:∀ p∈X.pn++pins,p.1≠it):Inv X pins σ H {s with heap:=h',toks:=t'}:=by
  have nit:∀ b u,H b=some u→b≠it:=fun b u e z=>by rw [z,hn] at e;cases e
  refine I.step (g':=s.gens) (d':=s.drawn) (ch:=[it]) (fun b hb=>?_) (fun b o _ _ hc e _=>k b o (fun z=>hc (by simp [z])) e) (fun b o _ _ hc e _=>⟨o.slots,k b o (fun z=>hc (by simp [z])) e⟩) (fun _ _ _ _ n=>n)
    (fun b o hc e=>⟨o,k b o (fun z=>hc (by simp [z])) e⟩) (fun _ _ e=>e) (fun _ _ _ e=>e) (fun b ps e=>⟨#[],by rw [e];simp⟩) (fun m hm=>?_) (fun b u e=>?_) I.bare
  · have e:b=it:=by simpa using hb
    subst e
    exact ⟨h1,hL,h2,h3⟩
  · obtain ⟨o,es,ep,ho,r⟩:=hm
    exact ⟨o,es,ep,k _ o (Ne.symm hL) ho,r⟩
  · refine (I.hok b u e).stay (fun c v hc q=>k c v ?_ q) (fun _ q=>q) fun _ _ q=>q
    rcases hc with z | z
    · rw [z];exact nit b u e
    · exact nit c _ z
theorem Inv.tok (I:Inv X pins σ H s) (t:Nat):Inv X pins σ H {s with toks:=t}:=I.un (h':=s.heap) (t':=t) Un.refl I.hok
theorem Inv.kept {t':Nat} (I:Inv X pins σ H s) (k:∀ b u,s.heap.get? b=some u→h'.get? b=some u):Inv X pins σ H {s with heap:=h',toks:=t'}:=I.un (Un.kept k) (I.hok.kept k)
theorem Inv.laid {a:Addr} {o:HO} {t':Nat} (I:Inv X pins σ H s) (k:∀ b u,s.heap.get? b=some u→h'.get? b=some u) (hp:s.heap.objs.size≤a) (new:ObjOk X.prog X.w (upd H a o) h' a o) :
    Inv X pins σ (upd H a o) {s with heap:=h',toks:=t'}:=I.un (Un.laid k hp (I.hok.fresh hp)) (I.hok.laid k hp new)
theorem Inv.write {x e:Addr} {o:HO} {t':Nat} (I:Inv X pins σ H s) (mu:Mut (H x)) (he:e=x∨H e=some (.own x)) (k:∀ b u,b≠e→s.heap.get? b=some u→h'.get? b=some u) (heo:∃ u,h'.get? e=some u)
    (new:ObjOk X.prog X.w (upd H x o) h' x o):Inv X pins σ (upd H x o) {s with heap:=h',toks:=t'}:=I.un (Un.write mu he k heo) (I.hok.write mu he k heo new)
theorem Inv.weak {σ':List (Option V)} (I:Inv X pins σ H s) (hl:σ'.length=σ.length) (w:∀ (i:Nat) v,σ'[i]?=some (some v)→σ[i]?=some (some v)):Inv X pins σ' H s :=
  ⟨I.ok,I.os,I.bare,I.base,let ⟨m,hn,hl'⟩:=I.loc;⟨m,hn,fun i x v e1 e2 e3=>hl' i x v e1 (w i v e2) e3⟩,I.cell,I.free,I.freeC,I.pin,I.hok,hl.trans I.len⟩
theorem Inv.pins_of {pins':List (Addr×Obj)} (I:Inv X pins σ H s) (h:∀ p∈pins',s.heap.get? p.1=some p.2∧H p.1=none∧p.1≠X.env.locals∧p.1∉X.fs∧∀ v,p.2.data≠.cell v):Inv X pins' σ H s :=
  ⟨I.ok,I.os,I.bare,I.base,I.loc,I.cell,I.free,I.freeC,fun p hp=>(List.mem_append.mp hp).elim (fun z=>I.pin p (List.mem_append_left _ z)) (h p),I.hok,I.len⟩
theorem nodup_ix {N:List Str} (hN:N.Nodup) {i j:Nat} {x:Str} (a:N[i]?=some x) (b:N[j]?=some x):i=j:=by
  obtain ⟨h1,e1⟩:=List.getElem?_eq_some_iff.mp a
  obtain ⟨h2,e2⟩:=List.getElem?_eq_some_iff.mp b
  exact (List.getElem_inj hN).mp (e1.trans e2.symm)
theorem store_ok2 {M:Model} {A:Around} {E:Value→Shared→Prop} {i:Nat} {x:Str} {v:V} {u:Value} {Q:Unit→Shared→Prop} (I:Inv X pins σ H s) (hN:X.N.Nodup) (hi:X.N[i]?=some x) (hx:Loc X.env.scope x) (r:RelV v u)
    (h:∀ s',Inv X pins (σ.set i (some v)) H s'→(∃ a,Heap.SameBut a s.heap s'.heap∧(a=X.env.locals∨X.env.cells.lookup x=some a))→Q () s') (hf:X.fn x=true∨X.env.scope.names.lookup x=some .local:=by first | exact .inl rfl | exact .inr rfl | assumption):wpAny M A (storeName X.env x u) Q E s:=by
  obtain ⟨m,hn,hl⟩:=id I.loc
  have hcls:(X.env.scope.kind==.class || (X.env.scope.kind==.module&&X.env.locals != X.env.globals))=false:=by rw [I.ok.kind];rfl
  have hiσ:i<σ.length:=by rw [I.len];exact (List.getElem?_eq_some_iff.mp hi).1
  have cne:=I.cne
  have tracked:∀ {a:Addr} {h':Heap},(∃ o,s.heap.get? a=some o∧H a=none)→Heap.SameBut a s.heap h'→HOk X.prog X.w H h':=fun {a h'} ha hs b ob e=>by
    obtain ⟨_,_,hfree⟩:=ha
    refine (I.hok b ob e).stay (fun c w' hc q=>(hs.2 c ?_).trans q) (fun _ q=>q) fun _ _ q=>q
    rintro rfl
    rcases hc with rfl | hc
    · rw [hfree] at e;cases e
    · rw [hfree] at hc;cases hc
  rcases hx with hk | hk
  · refine wpAny_storeName_local hk hn (fun h' hn' hs=>?_) hcls
    obtain ⟨oL,_,_,hoL,_⟩:=id hn
    refine h _ ⟨I.ok,I.os,I.bare,⟨fun b o e n hb hx=>?_,fun b o e n hb hx=>?_,I.base.free,fun b o e hx=>?_,I.base.tups,I.base.frzs,I.base.tbls⟩,⟨_,hn',fun j y v' e1 e2 e3=>?_⟩,fun y c e=>?_,I.free,I.freeC,fun p hp=>?_,tracked ⟨oL,hoL,I.free⟩ hs,by simpa using I.len⟩ ⟨_,hs,.inl rfl⟩
    · exact (hs.2 b (Nat.ne_of_lt (Nat.lt_of_lt_of_le (Heap.lt_size e) I.ok.above))).trans (I.base.keep b o e n hb hx)
    · obtain ⟨sl,e1⟩:=I.base.slot b o e n hb hx
      exact ⟨sl,(hs.2 b (Nat.ne_of_lt (Nat.lt_of_lt_of_le (Heap.lt_size e) I.ok.above))).trans e1⟩
    · obtain ⟨o',e1⟩:=I.base.there b o e hx
      exact ⟨o',(hs.2 b (Nat.ne_of_lt (Nat.lt_of_lt_of_le (Heap.lt_size e) I.ok.above))).trans e1⟩
    · by_cases hj:j=i
      · subst hj
        rw [hi] at e1;cases e1
        rw [List.getElem?_set_self hiσ] at e2
        cases e2
        exact ⟨u,r,.inl ⟨hk,by simp⟩⟩
      · rw [List.getElem?_set_ne (Ne.symm hj)] at e2
        obtain ⟨u',r',q⟩:=hl j y v' e1 e2 e3
        refine ⟨u',r',?_⟩
        rcases q with ⟨k,e⟩ | ⟨k,c,e,z⟩
        · refine .inl ⟨k,?_⟩
          have:y≠x:=fun e=>hj (nodup_ix hN e1 (e▸hi))
          simp [this,e]
        · exact .inr ⟨k,c,e,z.sameBut hs (cne y c e)⟩
    · obtain ⟨w',z⟩:=I.cell y c e
      exact ⟨w',z.sameBut hs (cne y c e)⟩
    · obtain ⟨e,n,ne,nf,d⟩:=I.pin p hp
      exact ⟨(hs.2 p.1 ne).trans e,n,ne,nf,d⟩
  · have hfn:X.fn x=true:=by
      rcases hf with z | z
      · exact z
      · rw [z] at hk;cases hk
    obtain ⟨c,hc⟩:=I.ok.has x (.inl hk)
    obtain ⟨w',z⟩:=I.cell x c hc
    refine wpAny_storeName_cell I.ok.kind hk hc z (fun h' hc' hs=>?_)
    obtain ⟨oc,hoc,hocd⟩:=id z
    refine h {s with heap:=h'} ⟨I.ok,I.os,I.bare,⟨fun b o e n hb hx=>?_,fun b o e n hb hx=>?_,I.base.free,fun b o e hx=>?_,I.base.tups,I.base.frzs,I.base.tbls⟩,⟨m,hn.sameBut hs (Ne.symm (cne x c hc)),fun j y v' e1 e2 e3=>?_⟩,fun y c' e=>?_,I.free,I.freeC,fun p hp=>?_,tracked ⟨oc,hoc,I.freeC x c hc⟩ hs,by simpa using I.len⟩ ⟨c,hs,.inr hc⟩
    · exact (hs.2 b (Nat.ne_of_lt (Nat.lt_of_lt_of_le (Heap.lt_size e) (I.ok.cab x c hfn hc)))).trans (I.base.keep b o e n hb hx)
    · obtain ⟨sl,e1⟩:=I.base.slot b o e n hb hx
      exact ⟨sl,(hs.2 b (Nat.ne_of_lt (Nat.lt_of_lt_of_le (Heap.lt_size e) (I.ok.cab x c hfn hc)))).trans e1⟩
    · obtain ⟨o',e1⟩:=I.base.there b o e hx
      exact ⟨o',(hs.2 b (Nat.ne_of_lt (Nat.lt_of_lt_of_le (Heap.lt_size e) (I.ok.cab x c hfn hc)))).trans e1⟩
    · by_cases hj:j=i
      · subst hj
        rw [hi] at e1;cases e1
        rw [List.getElem?_set_self hiσ] at e2
        cases e2
        exact ⟨u,r,.inr ⟨.inl hk,c,hc,hc'⟩⟩
      · rw [List.getElem?_set_ne (Ne.symm hj)] at e2
        obtain ⟨u',r',q⟩:=hl j y v' e1 e2 e3
        refine ⟨u',r',?_⟩
        rcases q with q | ⟨k,c',e,z'⟩
        · exact .inl q
        · refine .inr ⟨k,c',e,z'.sameBut hs ?_⟩
          rintro rfl
          exact hj (nodup_ix hN e1 (I.ok.inj _ _ _ e hc▸hi))
    · by_cases hcc:c'=c
      · subst hcc;exact ⟨_,hc'⟩
      · obtain ⟨w2,z2⟩:=I.cell y c' e
        exact ⟨w2,z2.sameBut hs hcc⟩
    · obtain ⟨e,n,ne,nf,d⟩:=I.pin p hp
      refine ⟨(hs.2 p.1 ?_).trans e,n,ne,nf,d⟩
      intro q
      rw [q,hoc] at e
      have q':oc=p.2:=Option.some.inj e
      exact d w' (by rw [← q'];exact hocd)
theorem store_ok {M:Model} {A:Around} {E:Value→Shared→Prop} {i:Nat} {x:Str} {v:V} {u:Value} {Q:Unit→Shared→Prop} (I:Inv X pins σ H s) (hN:X.N.Nodup) (hi:X.N[i]?=some x) (hx:Loc X.env.scope x) (r:RelV v u)
    (h:∀ s',Inv X pins (σ.set i (some v)) H s'→Q () s') (hf:X.fn x=true∨X.env.scope.names.lookup x=some .local:=by first | exact .inl rfl | exact .inr rfl | assumption):wpAny M A (storeName X.env x u) Q E s :=
  store_ok2 I hN hi hx r (fun s' I' _=>h s' I') hf
theorem Inv.call' {s':Shared} {ch:List Addr} (I:Inv X pins σ H s) (ho:s'.os=s.os) (u:Un (frs X.stack) ch H H' s.heap s'.heap) (hok:HOk X.prog X.w H' s'.heap) (hg:AllBare s'.gens)
    (hch:∀ b∈ch,(b∈X.ex∨X.s₀.heap.objs.size≤b)∧b≠X.env.locals∧(∀ x c,X.env.cells.lookup x=some c→c≠b)∧∀ p∈X.pn++pins,p.1≠b):Inv X pins σ H' s':=by
  obtain ⟨h',g',d',t',o'⟩:=s'
  have e:o'=s.os:=ho
  subst e
  exact I.call (g':=g') (t':=t') (d':=d') u hok hg hch
end
noncomputable abbrev XK:=Value→Option Addr→Hp→Prop
noncomputable abbrev St:=List (Option V)
noncomputable abbrev VK:=V→Hp→Prop
noncomputable abbrev TE:=St→Hp→VK→Prop
noncomputable abbrev TT:=St→Hp→(Bool→Hp→Prop)→Prop
noncomputable abbrev TA:=St→Hp→(List V→Hp→Prop)→Prop
structure Ends where
  nx:St→Hp→Prop
  rt:VK
  bk:St→Hp→Prop:=fun _ _=>False
  ct:St→Hp→Prop:=fun _ _=>False
noncomputable abbrev TS:=Ends→St→Hp→Prop
noncomputable def EP (X:Cx) (pins:List (Addr×Obj)) (σ:St) (Q:VK) (u:Value) (s':Shared):Prop:=∃ v H',Inv X pins σ H' s'∧RelV v u∧Q v H'
noncomputable def TP (X:Cx) (pins:List (Addr×Obj)) (σ:St) (Q:Bool→Hp→Prop) (b:Bool) (s':Shared):Prop:=∃ H',Inv X pins σ H' s'∧Q b H'
noncomputable def AP (X:Cx) (pins:List (Addr×Obj)) (σ:St) (Q:List V→Hp→Prop) (us:List Value) (s':Shared):Prop:=∃ vs H',Inv X pins σ H' s'∧Vals vs us∧Q vs H'
noncomputable def SP (X:Cx) (pins:List (Addr×Obj)) (D:Ends) (f:Flow) (s':Shared):Prop :=
  match f with
  | .next=>∃ σ' H',Inv X pins σ' H' s'∧D.nx σ' H'
  | .brk=>∃ σ' H',Inv X pins σ' H' s'∧D.bk σ' H'
  | .cont=>∃ σ' H',Inv X pins σ' H' s'∧D.ct σ' H'
  | .ret u=>∃ v σ' H',Inv X pins σ' H' s'∧RelV v u∧D.rt v H'
noncomputable def PE (X:Cx) (e:Expr) (t:TE):Prop :=
  ∀ (pins:List (Addr×Obj)) (s:Shared) (σ:St) (H:Hp) (Q:VK),Inv X pins σ H s→t σ H Q→wpAny (model X.prog X.w) X.A (eval e X.env) (EP X pins σ Q) X.xe s
noncomputable def PT (X:Cx) (e:Expr) (t:TT):Prop :=
  ∀ (pins:List (Addr×Obj)) (s:Shared) (σ:St) (H:Hp) (Q:Bool→Hp→Prop),Inv X pins σ H s→t σ H Q→wpAny (model X.prog X.w) X.A (isTrue e X.env (eval e X.env)) (TP X pins σ Q) X.xe s
noncomputable def PW (X:Cx) (e:Expr) (t:TT):Prop :=
  ∀ (whole:Sem Value) (pins:List (Addr×Obj)) (s:Shared) (σ:St) (H:Hp) (Q:Bool→Hp→Prop),Inv X pins σ H s→t σ H Q→wpAny (model X.prog X.w) X.A (isTrue e X.env whole) (TP X pins σ Q) X.xe s
theorem PW.pt {X:Cx} {e:Expr} {t:TT} (h:PW X e t):PT X e t:=h _
noncomputable def PA (X:Cx) (es:List Expr) (t:TA):Prop :=
  ∀ (pos:Pos) (pins:List (Addr×Obj)) (s:Shared) (σ:St) (H:Hp) (Q:List V→Hp→Prop),Inv X pins σ H s→t σ H Q→wpAny (model X.prog X.w) X.A (spliced (backTo pos (starEach es X.env))) (AP X pins σ Q) X.xe s
noncomputable def PS (X:Cx) (st:Stmt) (t:TS):Prop :=
  ∀ (pins:List (Addr×Obj)) (s:Shared) (σ:St) (H:Hp) (D:Ends),Inv X pins σ H s→t D σ H→wpAny (model X.prog X.w) X.A (exec st X.env) (SP X pins D) X.xe s
noncomputable def PSs (X:Cx) (st:List Stmt) (t:TS):Prop :=
  ∀ (pins:List (Addr×Obj)) (s:Shared) (σ:St) (H:Hp) (D:Ends),Inv X pins σ H s→t D σ H→wpAny (model X.prog X.w) X.A (execs st X.env) (SP X pins D) X.xe s
theorem thn {α:Type} {t:Sem α} {Q Q':α→Shared→Prop} {M:Model} {A:Around} {E:Value→Shared→Prop} {s:Shared} (h:wpAny M A t Q E s) (hQ:∀ a s,Q a s→Q' a s):wpAny M A t Q' E s:=wpAny_mono h hQ fun _ _ x=>x
end L2
namespace L2
open PySem PySem.Spec PyProof.Rows
section
variable {X:Cx}
theorem bin {a b:Expr} {ta tb:TE} (ha:PE X a ta) (hb:PE X b tb) {pins:List (Addr×Obj)} {s:Shared} {σ:St} {H:Hp} {R:V→V→Hp→Prop} (I:Inv X pins σ H s) (h:ta σ H fun x H1=>tb σ H1 fun y H2=>R x y H2)
    {α:Type} {Q:α→Shared→Prop} {f:Value→Value→Sem α}
    (hf:∀ v u s2 x y H2,Inv X pins σ H2 s2→RelV x v→RelV y u→R x y H2→wpAny (model X.prog X.w) X.A (f v u) Q X.xe s2) :
    wpAny (model X.prog X.w) X.A (eval a X.env) (fun v s₁=>wpAny (model X.prog X.w) X.A (eval b X.env) (fun u s₂=>wpAny (model X.prog X.w) X.A (f v u) Q X.xe s₂) X.xe s₁) X.xe s:=by
  refine thn (ha pins s σ H _ I h) fun v s1 ⟨x,H1,I1,r1,q1⟩=>?_
  refine thn (hb pins s1 σ H1 _ I1 q1) fun u s2 ⟨y,H2,I2,r2,q2⟩=>?_
  exact hf v u s2 x y H2 I2 r1 r2 q2
noncomputable def tVar (i:Nat):TE:=fun σ H Q=>∃ v,σ[i]?=some (some v)∧Q v H
noncomputable def tC (v:V):TE:=fun _ H Q=>Q v H
theorem pe_var {i:Nat} {x:Str} {pos:Pos} (hN:X.N[i]?=some x) (hv:Vis X.env.scope x) (hd:(x==("__debug__":Str))=false:=by decide) (hcd:(x==("__classdict__":Str))=false:=by decide):PE X (.Name x pos) (tVar i):=by
  intro pins s σ H Q I h
  obtain ⟨v,e,h⟩:=h
  obtain ⟨m,hn,hl⟩:=I.loc
  obtain ⟨u,r,l⟩:=hl i x v hN e hv
  have fin:EP X pins σ Q u s:=⟨v,H,I,r,h⟩
  rcases l with ⟨hk,hm⟩ | ⟨hk,c,hc,hcell⟩
  · exact wpAny_Name (wpAny_loadName_local I.ok.kind hk hn hm fin) hd
  · rcases hk with hk | hk
    · exact wpAny_Name (wpAny_loadName_cell I.ok.kind hk hc hcell fin) hd
    · exact wpAny_Name (wpAny_loadName_free I.ok.kind hk hc hcell fin hcd) hd
theorem pe_int {i j pos}:PE X (.Constant (.int i) j pos) (tC (.int i)):=fun _ _ _ H _ I h=>wpAny_Constant_int ⟨.int i,H,I.tok _,⟨_,rfl⟩,h⟩
theorem pe_bl {b j pos}:PE X (.Constant (.bool b) j pos) (tC (.bl b)):=fun _ _ _ H _ I h=>Constant_bool ⟨.bl b,H,I,rfl,h⟩
theorem pe_non {j pos}:PE X (.Constant .none j pos) (tC .non):=fun _ _ _ H _ I h=>Constant_none ⟨.non,H,I,rfl,h⟩
theorem pe_str {x j pos}:PE X (.Constant (.str x) j pos) (tC (.str x)):=fun _ _ _ H _ I h=>Calls.Constant_str ⟨.str x,H,I.tok _,⟨_,rfl⟩,h⟩
noncomputable def Gl (X:Cx) (x:Str):Prop:=X.env.kindOf x=some .globalImplicit
theorem ld_glob {E:Value→Shared→Prop} {pins:List (Addr×Obj)} {s:Shared} {σ:St} {H:Hp} {x:Str} {u:Value} {pos:Pos} {Q:Value→Shared→Prop} (I:Inv X pins σ H s) (hg:Gl X x) (hm:X.mg x=some u) (h:Q u s)
    (hd:(x==("__debug__":Str))=false:=by decide):wpAny (model X.prog X.w) X.A (eval (.Name x pos) X.env) Q E s :=
  Calls.Name_function_global I.ok.kind hg (Calls.loadGlobal_global (by rw [I.ok.glob];exact I.mod.glob.keeps I.bk) hm h) hd
theorem ld_blt {E:Value→Shared→Prop} {pins:List (Addr×Obj)} {s:Shared} {σ:St} {H:Hp} {x:Str} {u:Value} {pos:Pos} {Q:Value→Shared→Prop} (I:Inv X pins σ H s) (hg:Gl X x) (hm:X.mg x=none) (hv:bootBuiltins x=some u) (h:Q u s)
    (hn:x≠"__name__":=by decide) (hd:(x==("__debug__":Str))=false:=by decide):wpAny (model X.prog X.w) X.A (eval (.Name x pos) X.env) Q E s:=by
  obtain ⟨mb,h1,h2⟩:=I.mod.blt
  exact Calls.Name_function_global I.ok.kind hg (Calls.loadGlobal_builtin (by rw [I.ok.glob];exact I.mod.glob.keeps I.bk) hm (by rw [I.ok.blt];exact h1.keeps I.bk) ((h2 x hn).trans hv) h) hd
theorem pe_glob {x:Str} {v:V} {u:Value} {pos:Pos} (hg:Gl X x) (hm:X.mg x=some u) (r:RelV v u) (hd:(x==("__debug__":Str))=false:=by decide):PE X (.Name x pos) (tC v) :=
  fun _ _ _ H _ I h=>ld_glob I hg hm ⟨v,H,I,r,h⟩ hd
theorem pe_bltn {x:Str} {v:V} {u:Value} {pos:Pos} (hg:Gl X x) (hm:X.mg x=none) (hv:bootBuiltins x=some u) (r:RelV v u) (hn:x≠"__name__":=by decide) (hd:(x==("__debug__":Str))=false:=by decide):PE X (.Name x pos) (tC v) :=
  fun _ _ _ H _ I h=>ld_blt I hg hm hv ⟨v,H,I,r,h⟩ hn hd
noncomputable def t2I (ta tb:TE) (k:Int→Int→Hp→Prop):St→Hp→Prop:=fun σ H=>ta σ H fun x H1=>tb σ H1 fun y H2=>∃ i j,x=.int i∧y=.int j∧k i j H2
variable {a b:Expr} {ta tb:TE} {pos:Pos}
noncomputable def PC (X:Cx) (op:CmpOp) (a b:Expr) (t:TE):Prop :=
  ∀ (pins:List (Addr×Obj)) (s:Shared) (σ:St) (H:Hp) (Q:VK),Inv X pins σ H s→t σ H Q→
    wpAny (model X.prog X.w) X.A (eval a X.env) (fun v s₁=>wpAny (model X.prog X.w) X.A (eval b X.env) (fun u s₂=>wpAny (model X.prog X.w) X.A (compareOp op v u) (EP X pins σ Q) X.xe s₂) X.xe s₁) X.xe s
noncomputable def tCmp (p:Int→Int→Bool) (ta tb:TE):TE:=fun σ H Q=>t2I ta tb (fun i j H2=>Q (.bl (p i j)) H2) σ H
noncomputable abbrev tLt:TE→TE→TE:=tCmp fun i j=>decide (i<j)
noncomputable abbrev tLe:TE→TE→TE:=tCmp fun i j=>decide (i≤j)
noncomputable abbrev tGt:TE→TE→TE:=tCmp fun i j=>decide (j<i)
noncomputable abbrev tGe:TE→TE→TE:=tCmp fun i j=>decide (j≤i)
noncomputable abbrev tEqI:TE→TE→TE:=tCmp fun i j=>decide (i=j)
noncomputable abbrev tNeI:TE→TE→TE:=tCmp fun i j=>!decide (i=j)
noncomputable def tB (t:TE):TT:=fun σ H Q=>t σ H fun x H1=>∃ c,x=.bl c∧Q c H1
theorem pt_cmp {op:CmpOp} {t:TE} (h:PC X op a b t) (h1:behindInMarks op b=false:=by first | exact nobehind _ (by decide) (by decide) | rfl):PT X (.Compare a [op] [b] pos) (tB t):=by
  intro pins s σ H Q I hw
  refine wpAny_isTrue_Compare1 (thn (h pins s σ H _ I hw) fun v s1 h1=>thn h1 fun u s2 h2=>thn h2 fun c s3 ⟨x,H1,I1,r1,q1⟩=>?_) h1
  obtain ⟨d,rfl,q⟩:=q1
  cases r1
  exact wpAny_truthy_bool ⟨H1,I1,q⟩
theorem pt_val {e:Expr} {t:TE} (h:PE X e t) (he:∀ whole,isTrue e X.env whole=(do let v ← whole;standAt e.pos;holding [v] (truthy v)):=by intro _;rfl):PT X e (tB t):=by
  intro pins s σ H Q I hw
  refine isTrue_plain (thn (h pins s σ H _ I hw) fun v s1 ⟨x,H1,I1,r1,q1⟩=>?_) (he _)
  obtain ⟨d,rfl,q⟩:=q1
  cases r1
  exact wpAny_truthy_bool ⟨H1,I1,q⟩
variable {tA tB':TT} {rest:List Expr}
noncomputable def tAnd (t u:TT):TT:=fun σ H Q=>t σ H fun c H1=>if c=true then u σ H1 Q else Q false H1
noncomputable def tOr (t u:TT):TT:=fun σ H Q=>t σ H fun c H1=>if c=true then Q true H1 else u σ H1 Q
noncomputable def tNot (t:TT):TT:=fun σ H Q=>t σ H fun c H1=>Q (!c) H1
theorem pw_and1 (ha:PT X a tA):PW X (.BoolOp .And [a] pos) tA:=by
  intro wh pins s σ H Q I h
  refine isTrue_and (thn (ha pins s σ H Q I h) fun c s1 e=>?_)
  cases c with
  | true=>exact isTrue_and_nil e
  | false=>exact e
theorem pw_or1 (ha:PT X a tA):PW X (.BoolOp .Or [a] pos) tA:=by
  intro wh pins s σ H Q I h
  refine isTrue_or (thn (ha pins s σ H Q I h) fun c s1 e=>?_)
  cases c with
  | false=>exact isTrue_or_nil e
  | true=>exact e
theorem pw_and (ha:PT X a tA) (hb:PW X (.BoolOp .And (b::rest) pos) tB'):PW X (.BoolOp .And (a::b::rest) pos) (tAnd tA tB'):=by
  intro wh pins s σ H Q I h
  refine isTrue_and (thn (ha pins s σ H _ I h) fun c s1 ⟨H1,I1,q1⟩=>?_)
  cases c with
  | true=>exact hb wh pins s1 σ H1 Q I1 q1
  | false=>exact ⟨H1,I1,q1⟩
theorem pw_or (ha:PT X a tA) (hb:PW X (.BoolOp .Or (b::rest) pos) tB'):PW X (.BoolOp .Or (a::b::rest) pos) (tOr tA tB'):=by
  intro wh pins s σ H Q I h
  refine isTrue_or (thn (ha pins s σ H _ I h) fun c s1 ⟨H1,I1,q1⟩=>?_)
  cases c with
  | true=>exact ⟨H1,I1,q1⟩
  | false=>exact hb wh pins s1 σ H1 Q I1 q1
theorem pt_not (ha:PT X a tA):PT X (.UnaryOp .Not a pos) (tNot tA):=by
  intro pins s σ H Q I h
  exact isTrue_not (ha pins s σ H (fun c H1=>Q (!c) H1) I h)
noncomputable def tAndV (ta tb:TE):TE:=fun σ H Q=>ta σ H fun x H1=>∃ c,x=.bl c∧if c=true then tb σ H1 Q else Q (.bl false) H1
noncomputable def tNotV (ta:TE):TE:=fun σ H Q=>ta σ H fun x H1=>∃ c,x=.bl c∧Q (.bl (!c)) H1
theorem pe_one {op} {t:TE} (h:PE X a t):PE X (.BoolOp op [a] pos) t:=fun pins s σ H Q I hw=>BoolOp_one (h pins s σ H Q I hw)
theorem pe_and (ha:PE X a ta) (hb:PE X (.BoolOp .And (b::rest) pos) tb):PE X (.BoolOp .And (a::b::rest) pos) (tAndV ta tb):=by
  intro pins s σ H Q I h
  refine BoolOp_and (thn (ha pins s σ H _ I h) fun v s1 ⟨x,H1,I1,r1,q1⟩=>?_)
  obtain ⟨c,rfl,q1⟩:=q1
  cases r1
  refine wpAny_truthy_bool ?_
  cases c with
  | true=>exact hb pins s1 σ H1 Q I1 q1
  | false=>exact ⟨.bl false,H1,I1,rfl,q1⟩
theorem pe_not (ha:PE X a ta):PE X (.UnaryOp .Not a pos) (tNotV ta):=by
  intro pins s σ H Q I h
  refine UnaryOp_ (thn (ha pins s σ H _ I h) fun v s1 ⟨x,H1,I1,r1,q1⟩=>?_)
  obtain ⟨c,rfl,q1⟩:=q1
  cases r1
  exact not_of (wpAny_truthy_bool ⟨.bl (!c),H1,I1,rfl,q1⟩)
end
end L2
namespace L2
open PySem PySem.Spec PyProof.Rows
noncomputable def SqL (K:PySem.W.Frag) (H:Hp) (a:Addr) (xs:List V):Prop :=
  Rd H a (.lst xs)∨
    ∃ (o:Obj) (its:Array Value) (n:Nat),K.lookup a=some o∧o.cls=.type "list"∧o.dict=none∧o.data=.seq its n∧its.size≤sizeLine∧Vals xs its.toList
noncomputable def SqT (K:PySem.W.Frag) (H:Hp) (a:Addr) (xs:List V):Prop :=
  Rd H a (.tup xs)∨
    ∃ (o:Obj) (its:Array Value) (n:Nat),K.lookup a=some o∧o.cls=.type "tuple"∧o.data=.seq its n∧its.size≤sizeLine∧Vals xs its.toList
noncomputable def absV:Value→Option V
  | .none=>some .non
  | .bool b=>some (.bl b)
  | .int i _=>some (.int i)
  | .str x _=>some (.str x)
  | .bytes b _=>some (.byt b)
  | .float b _=>some (.flt b)
  | .ref a=>some (.ref a)
  | .type n=>some (.ty n)
  | _=>none
theorem RelV.abs {x:V} {u:Value} (r:RelV x u):absV u=some x:=by
  cases x with
  | non=>cases r;rfl
  | bl _=>cases r;rfl
  | int _=>obtain ⟨t,rfl⟩:=r;rfl
  | str _=>obtain ⟨t,rfl⟩:=r;rfl
  | byt _=>obtain ⟨t,rfl⟩:=r;rfl
  | flt _=>obtain ⟨t,rfl⟩:=r;rfl
  | ref _=>cases r;rfl
  | ty _=>cases r;rfl
theorem RelV.inj {x y:V} {u:Value} (r:RelV x u) (q:RelV y u):x=y:=Option.some.inj (r.abs.symm.trans q.abs)
theorem Vals.inj {xs ys:List V} {us:List Value} (a:Vals xs us) (b:Vals ys us):xs=ys:=by
  induction a generalizing ys with
  | nil=>cases b;rfl
  | cons r t ih =>
    cases b with
    | cons r' t'=>rw [r.inj r',ih t']
section
variable {X:Cx} {pins:List (Addr×Obj)} {σ:St} {H:Hp} {s:Shared} {a:Addr} {xs ys:List V}
theorem SqL.of {K:PySem.W.Frag} (h:H a=some (.lst xs)):SqL K H a xs:=.inl (.inl h)
theorem SqT.of {K:PySem.W.Frag} (h:H a=some (.tup xs)):SqT K H a xs:=.inl (.inl h)
theorem Inv.list (I:Inv X pins σ H s) (h:SqL X.K H a xs):∃ its:List Value,Vals xs its∧PlainL s.heap a its.toArray∧xs.length≤sizeLine:=by
  rcases h with h | ⟨o,its,n,hk,hc,hd,hs,hz,r⟩
  · obtain ⟨z,its,n,r,e⟩:=h.ok I.hok
    exact ⟨its,r,⟨_,n,e,rfl,rfl,rfl⟩,z⟩
  · refine ⟨its.toList,r,⟨o,n,I.kIn a o hk,hc,hd,by simpa using hs⟩,?_⟩
    have e:=r.length
    simp only [Array.length_toList] at e
    omega
theorem Inv.tuple (I:Inv X pins σ H s) (h:SqT X.K H a xs):∃ its:List Value,Vals xs its∧IsTup s.heap a its.toArray∧xs.length≤sizeLine:=by
  rcases h with h | ⟨o,its,n,hk,hc,hs,hz,r⟩
  · obtain ⟨z,its,r,p⟩:=h.ok I.hok
    exact ⟨its,r,p,z⟩
  · refine ⟨its.toList,r,⟨o,I.kIn a o hk,hc,n,by simpa using hs⟩,?_⟩
    have e:=r.length
    simp only [Array.length_toList] at e
    omega
theorem Inv.list_inj (I:Inv X pins σ H s) (h:SqL X.K H a xs) (h':SqL X.K H a ys):xs=ys:=by
  obtain ⟨its,r,⟨o,n,e,_,_,d⟩,_⟩:=I.list h
  obtain ⟨its',r',⟨o',n',e',_,_,d'⟩,_⟩:=I.list h'
  rw [e] at e';cases e'
  rw [d] at d'
  injection d' with d1 _
  have:its=its':=by simpa using congrArg Array.toList d1
  subst this
  exact r.inj r'
end
noncomputable abbrev Cx.wish (X:Cx) (E:Value→Shared→Prop):Cx:={X with xe:=E}
noncomputable abbrev Cx.nox (X:Cx):Cx:=X.wish fun _ _=>False
theorem Cx.Ok.wish {X:Cx} (ok:X.Ok) (E:Value→Shared→Prop):(X.wish E).Ok :=
  ⟨ok.mod,ok.kind,ok.glob,ok.blt,ok.above,ok.inj,ok.has,ok.cab,ok.hd,ok.frames,ok.stk,ok.exf,ok.bs,ok.bsz,ok.noex,ok.exfs,ok.funs,ok.frf⟩
theorem Cx.Ok.unwish {X:Cx} {E:Value→Shared→Prop} (ok:(X.wish E).Ok):X.Ok :=
  ⟨ok.mod,ok.kind,ok.glob,ok.blt,ok.above,ok.inj,ok.has,ok.cab,ok.hd,ok.frames,ok.stk,ok.exf,ok.bs,ok.bsz,ok.noex,ok.exfs,ok.funs,ok.frf⟩
section
variable {X:Cx} {pins:List (Addr×Obj)} {σ:St} {H:Hp} {s:Shared} {E:Value→Shared→Prop}
theorem Inv.wish (I:Inv X pins σ H s) (E:Value→Shared→Prop):Inv (X.wish E) pins σ H s:=⟨I.ok.wish E,I.os,I.bare,I.base,I.loc,I.cell,I.free,I.freeC,I.pin,I.hok,I.len⟩
theorem Inv.unwish (I:Inv (X.wish E) pins σ H s):Inv X pins σ H s:=⟨I.ok.unwish,I.os,I.bare,I.base,I.loc,I.cell,I.free,I.freeC,I.pin,I.hok,I.len⟩
theorem SP.unwish {D:Ends} {f:Flow} {s':Shared} (h:SP (X.wish E) pins D f s'):SP X pins D f s':=by
  cases f with
  | next=>obtain ⟨σ',H',I,q⟩:=h;exact ⟨σ',H',I.unwish,q⟩
  | brk=>obtain ⟨σ',H',I,q⟩:=h;exact ⟨σ',H',I.unwish,q⟩
  | cont=>obtain ⟨σ',H',I,q⟩:=h;exact ⟨σ',H',I.unwish,q⟩
  | ret u=>obtain ⟨v,σ',H',I,r,q⟩:=h;exact ⟨v,σ',H',I.unwish,r,q⟩
theorem PSs.nox {st:List Stmt} {t:TS} (h:PSs X.nox st t):PSs X st t:=fun pins s σ H D I hw =>
  wpAny_mono (h pins s σ H D (I.wish _) hw) (fun _ _ q=>q.unwish) fun _ _ z=>False.elim z
end
section
variable {X:Cx} {st:Stmt} {rest:List Stmt} {t u:TS} {e:Expr} {te:TE} {pos:Pos}
noncomputable def tNext:TS:=fun D σ H=>D.nx σ H
noncomputable def tSeq (t u:TS):TS:=fun D σ H=>t {D with nx:=u D} σ H
theorem pss_nil:PSs X [] tNext:=fun _ _ σ H _ I h=>wpAny_execs_nil ⟨σ,H,I,h⟩
theorem pss_cons (h1:PS X st t) (h2:PSs X rest u):PSs X (st::rest) (tSeq t u):=by
  intro pins s σ H D I h
  refine wpAny_execs_cons (thn (h1 pins s σ H {D with nx:=u D} I h) fun f s1 q=>?_)
  cases f with
  | next =>
    obtain ⟨σ',H',I',q⟩:=q
    exact h2 pins s1 σ' H' D I' q
  | ret v=>exact q
  | brk=>exact q
  | cont=>exact q
theorem pss_one (h1:PS X st t):PSs X [st] t:=by
  intro pins s σ H D I h
  refine wpAny_execs_cons (thn (h1 pins s σ H D I h) fun f s1 q=>?_)
  cases f with
  | next=>exact wpAny_execs_nil q
  | ret v=>exact q
  | brk=>exact q
  | cont=>exact q
theorem Inv.quiet {pins:List (Addr×Obj)} {σ:St} {H:Hp} {s:Shared} (I:Inv X pins σ H s):interactive X.env=false:=by simp [interactive,I.ok.kind]
noncomputable def tDrop (te:TE):TS:=fun D σ H=>te σ H fun _ H1=>D.nx σ H1
theorem ps_expr (he:PE X e te) (hs:swapsWith e none pos.line X.env=pure false:=by rfl):PS X (.Expr e pos) (tDrop te):=by
  intro pins s σ H D I h
  exact wpAny_Expr_any (thn (he pins s σ H _ I h) fun v s1 ⟨x,H1,I1,r1,q1⟩=>⟨σ,H1,I1,q1⟩) I.quiet hs
noncomputable def tRet (te:TE):TS:=fun D σ H=>te σ H D.rt
theorem ps_ret (he:PE X e te):PS X (.Return (some e) pos) (tRet te):=by
  intro pins s σ H D I h
  exact wpAny_Return_some (thn (he pins s σ H _ I h) fun v s1 ⟨x,H1,I1,r1,q1⟩=>⟨x,σ,H1,I1,r1,q1⟩)
noncomputable def tIfS (c:TT) (t u:TS):TS:=fun D σ H=>c σ H fun b H1=>if b=true then t D σ H1 else u D σ H1
theorem ps_if {c:Expr} {a b:List Stmt} {tc:TT} (hc:PT X c tc) (ha:PSs X a t) (hb:PSs X b u):PS X (.If c a b pos) (tIfS tc t u):=by
  intro pins s σ H D I h
  refine wpAny_If (thn (hc pins s σ H _ I h) fun d s1 ⟨H1,I1,q1⟩=>?_)
  cases d with
  | true=>exact ha pins s1 σ H1 D I1 q1
  | false=>exact hb pins s1 σ H1 D I1 q1
noncomputable def tNever:TS:=fun _ _ _=>False
theorem pss_never {sts:List Stmt}:PSs X sts tNever:=fun _ _ _ _ _ _ h=>h.elim
end
noncomputable abbrev TG:=V→St→Hp→(St→Hp→Prop)→Prop
noncomputable abbrev TGs:=List V→St→Hp→(St→Hp→Prop)→Prop
noncomputable def PG (X:Cx) (target:Expr) (t:TG):Prop :=
  ∀ (pins:List (Addr×Obj)) (s:Shared) (σ:St) (H:Hp) (v:V) (u:Value) (Q:St→Hp→Prop),Inv X pins σ H s→RelV v u→t v σ H Q→
    wpAny (model X.prog X.w) X.A (assign target X.env u) (fun _ s'=>∃ σ' H',Inv X pins σ' H' s'∧Q σ' H') X.xe s
noncomputable def PGs (X:Cx) (ts:List Expr) (t:TGs):Prop :=
  ∀ (pins:List (Addr×Obj)) (s:Shared) (σ:St) (H:Hp) (vs:List V) (us:List Value) (Q:St→Hp→Prop),Inv X pins σ H s→Vals vs us→t vs σ H Q→
    wpAny (model X.prog X.w) X.A (assignInOrder ((assignEach ts X.env).map (·.2)) us) (fun _ s'=>∃ σ' H',Inv X pins σ' H' s'∧Q σ' H') X.xe s
noncomputable abbrev TSet:=V→V→V→Hp→(Hp→Prop)→Prop
noncomputable def PSet (X:Cx) (t:TSet):Prop :=
  ∀ (pins:List (Addr×Obj)) (s:Shared) (σ:St) (H:Hp) (o i v:V) (ov iv u:Value) (Q:Hp→Prop),Inv X pins σ H s→RelV o ov→RelV i iv→RelV v u→t o i v H Q→
    wpAny (model X.prog X.w) X.A (setItem ov iv u) (fun _ s'=>∃ H',Inv X pins σ H' s'∧Q H') X.xe s
noncomputable abbrev TIp:=V→V→Hp→VK→Prop
noncomputable def PIp (X:Cx) (op:Operator) (t:TIp):Prop :=
  ∀ (pins:List (Addr×Obj)) (s:Shared) (σ:St) (H:Hp) (x y:V) (v u:Value) (Q:VK),Inv X pins σ H s→RelV x v→RelV y u→t x y H Q→
    wpAny (model X.prog X.w) X.A (inplaceOp op v u) (EP X pins σ Q) X.xe s
section
variable {X:Cx} {pos:Pos}
noncomputable def gName (i:Nat):TG:=fun v σ H Q=>Q (σ.set i (some v)) H
theorem pg_name {i:Nat} {x:Str} (hN:X.N.Nodup) (hi:X.N[i]?=some x) (hx:Loc X.env.scope x) (hf:X.fn x=true∨X.env.scope.names.lookup x=some .local:=by first | exact .inl rfl | exact .inr rfl | assumption):PG X (.Name x pos) (gName i):=by
  intro pins s σ H v u Q I r h
  exact wpAny_assign_Name (store_ok I hN hi hx r (fun s' I'=>⟨_,H,I',h⟩) hf)
noncomputable def gNil:TGs:=fun vs σ H Q=>vs=[]∧Q σ H
noncomputable def gCons (t:TG) (u:TGs):TGs:=fun vs σ H Q=>∃ v r,vs=v::r∧t v σ H fun σ' H'=>u r σ' H' Q
theorem pgs_nil:PGs X [] gNil:=by
  intro pins s σ H vs us Q I r h
  obtain ⟨e,h⟩:=h
  subst e
  cases r
  exact assignInOrder_nil ⟨σ,H,I,h⟩
theorem pgs_cons {e:Expr} {es:List Expr} {t:TG} {u:TGs} (h1:PG X e t) (h2:PGs X es u)
    (hs:(assignEach (e::es) X.env).map (·.2)=assign e X.env::(assignEach es X.env).map (·.2):=by rfl):PGs X (e::es) (gCons t u):=by
  intro pins s σ H vs us Q I r h
  obtain ⟨v,vr,e1,h⟩:=h
  subst e1
  cases r with
  | cons r rr =>
    rw [hs]
    refine assignInOrder_cons (thn (h1 pins s σ H _ _ _ I r h) fun _ s1 ⟨σ1,H1,I1,q1⟩=>?_)
    exact h2 pins s1 σ1 H1 _ _ Q I1 rr q1
noncomputable def gTup (K:PySem.W.Frag) (n:Nat) (t:TGs):TG:=fun v σ H Q=>∃ a xs,v=.ref a∧SqT K H a xs∧xs.length=n∧t xs σ H Q
theorem pg_tup {es:List Expr} {k:Nat} {t:TGs} {n:Nat} (hc:X.calm=true) (h:PGs X es t)
    (hn:(assignEach es X.env).length=n:=by rfl) (hst:(assignEach es X.env).findIdx? (·.1)=none:=by rfl):PG X (.Tuple es k pos) (gTup X.K n t):=by
  intro pins s σ H v u Q I r hw
  obtain ⟨a,xs,e1,hq,hl,hw⟩:=hw
  subst e1
  cases r
  obtain ⟨its,rv,ht,hz⟩:=I.tuple hq
  refine assign_Tuple_tuple (I.ok.hd hc) ht (by simp [hn,← hl,rv.length]) hst fun h' hx=>?_
  have I1:Inv X pins σ H {s with heap:=h'}:=I.kept (t':=s.toks) fun b o e=>hx b o (Nat.ne_of_lt (Heap.lt_size e)) e
  exact h pins _ σ H xs _ Q I1 (by simpa using rv) hw
noncomputable def gSub (to ti:TE) (t:TSet):TG:=fun v σ H Q=>to σ H fun o H1=>ti σ H1 fun i H2=>t o i v H2 fun H3=>Q σ H3
theorem pg_sub {o i:Expr} {to ti:TE} {t:TSet} (ho:PE X o to) (hi:PE X i ti) (hs:PSet X t)
    (ha:∀ v,assign (.Subscript o i pos) X.env v=(do
      let ov ← holding [v] (eval o X.env)
      let iv ← holding [v,ov] (eval i X.env)
      standAt pos
      holding [v,ov,iv] (setItem ov iv v)
      release [v,ov,iv] []):=by intro _;rfl):PG X (.Subscript o i pos) (gSub to ti t):=by
  intro pins s σ H v u Q I r h
  rw [ha]
  refine wpAny_bind (wpAny_holding (thn (ho pins s σ H _ I h) fun ov s1 ⟨x,H1,I1,r1,q1⟩=>?_))
  refine wpAny_bind (wpAny_holding (thn (hi pins s1 σ H1 _ I1 q1) fun iv s2 ⟨y,H2,I2,r2,q2⟩=>?_))
  refine wpAny_bind (wpAny_standAt (wpAny_bind (wpAny_holding (thn (hs pins s2 σ H2 x y v ov iv u _ I2 r1 r2 r q2) fun _ s3 ⟨H3,I3,q3⟩=>?_))))
  exact wpAny_release ⟨σ,H3,I3,q3⟩
noncomputable def tAsg (te:TE) (g:TG):TS:=fun D σ H=>te σ H fun x H1=>g x σ H1 D.nx
theorem ps_asg {tg e:Expr} {te:TE} {g:TG} (he:PE X e te) (hg:PG X tg g) (hs:swapsWithSole [tg] e pos.line X.env=pure false:=by rfl) (hw:swappedStores [tg] e X.env=pure none:=by rfl)
    (h1:(assignEach [tg] X.env).map (·.2)=[assign tg X.env]:=by rfl):PS X (.Assign [tg] e pos) (tAsg te g):=by
  intro pins s σ H D I h
  refine wpAny_Assign_stores (thn (he pins s σ H _ I h) fun v s1 ⟨x,H1,I1,r1,q1⟩=>?_) hs hw
  rw [h1]
  exact thn (hg pins s1 σ H1 x v _ I1 r1 q1) fun _ s2 q=>q
theorem ps_set {i:Nat} {x:Str} {e:Expr} {te:TE} {pos':Pos} (hN:X.N.Nodup) (hi:X.N[i]?=some x) (hx:Loc X.env.scope x) (he:PE X e te) (hs:swapsWith e (some (.Name x pos')) pos.line X.env=pure false:=by rfl) (hf:X.fn x=true∨X.env.scope.names.lookup x=some .local:=by first | exact .inl rfl | exact .inr rfl | assumption) :
    PS X (.Assign [.Name x pos'] e pos) (tAsg te (gName i)):=by
  intro pins s σ H D I h
  refine wpAny_Assign_Name (thn (he pins s σ H _ I h) fun v s1 ⟨y,H1,I1,r1,q1⟩=>?_) hs
  exact store_ok I1 hN hi hx r1 (fun s2 I2=>⟨_,H1,I2,q1⟩) hf
noncomputable def tAug (i:Nat) (te:TE) (ti:TIp):TS:=fun D σ H=>∃ x,σ[i]?=some (some x)∧te σ H fun y H1=>ti x y H1 fun z H2=>D.nx (σ.set i (some z)) H2
theorem ps_aug {i:Nat} {x:Str} {e:Expr} {te:TE} {op:Operator} {ti:TIp} {pos':Pos} (hN:X.N.Nodup) (hi:X.N[i]?=some x) (hx:Loc X.env.scope x) (he:PE X e te) (ho:PIp X op ti) (hf:X.fn x=true∨X.env.scope.names.lookup x=some .local:=by first | exact .inl rfl | exact .inr rfl | assumption) :
    PS X (.AugAssign (.Name x pos') op e pos) (tAug i te ti):=by
  intro pins s σ H D I h
  obtain ⟨v,e1,h⟩:=h
  obtain ⟨m,hn,hl⟩:=I.loc
  have vis:Vis X.env.scope x:=by rcases hx with k | k;exact .inl k;exact .inr (.inl k)
  obtain ⟨u,r,l⟩:=hl i x v hi e1 vis
  refine wpAny_AugAssign_Name ?_
  have go:wpAny (model X.prog X.w) X.A (eval e X.env) (fun w s₂=>wpAny (model X.prog X.w) X.A (inplaceOp op u w) (fun r s₃=>wpAny (model X.prog X.w) X.A (storeName X.env x r) (fun _=>SP X pins D .next) X.xe s₃) X.xe s₂) X.xe s:=by
    refine thn (he pins s σ H _ I h) fun w s1 ⟨y,H1,I1,r1,q1⟩=>?_
    refine thn (ho pins s1 σ H1 v y u w _ I1 r r1 q1) fun z s2 ⟨zv,H2,I2,r2,q2⟩=>?_
    exact store_ok I2 hN hi hx r2 (fun s3 I3=>⟨_,H2,I3,q2⟩) hf
  rcases l with ⟨hk,hm⟩ | ⟨hk,c,hc,hcell⟩
  · exact wpAny_loadName_local I.ok.kind hk hn hm go
  · rcases hk with hk | hk
    · exact wpAny_loadName_cell I.ok.kind hk hc hcell go
    · rcases hx with k | k
      · have:X.env.scope.names.lookup x=some .free:=hk
        rw [k] at this;cases this
      · have:X.env.scope.names.lookup x=some .free:=hk
        rw [k] at this;cases this
noncomputable def ipI (f:Int→Int→Int):TIp:=fun x y H Q=>∃ i j,x=.int i∧y=.int j∧Q (.int (f i j)) H
theorem ip_add:PIp X .Add (ipI fun i j=>i+j):=by
  intro pins s σ H x y v u Q I r1 r2 h
  obtain ⟨i,j,e1,e2,q⟩:=h
  subst e1;subst e2
  obtain ⟨t,rfl⟩:=r1
  obtain ⟨t',rfl⟩:=r2
  exact iadd_int ⟨.int _,H,I.tok _,⟨_,rfl⟩,q⟩
end
section
variable {X:Cx} {pos:Pos}
end
structure It where
  go:Nat→Hp→Prop
  yld:Nat→Hp→V→Hp→Prop
  stop:Nat→Hp→Prop
noncomputable def FpOk (X:Cx) (pins:List (Addr×Obj)) (H:Hp) (b:Addr):Prop :=
  H b=none∧b≠X.env.locals∧b∉X.fs∧(b∈X.ex∨X.s₀.heap.objs.size≤b)∧(∀ x c,X.env.cells.lookup x=some c→c≠b)∧∀ p∈X.pn++pins,p.1≠b
theorem Inv.fpOk {X:Cx} {pins:List (Addr×Obj)} {σ:St} {H H':Hp} {s:Shared} {b:Addr} (I:Inv X pins σ H s) (hb:s.heap.objs.size≤b) (hn:H' b=none):FpOk X pins H' b:=by
  refine ⟨hn,Nat.ne_of_gt (Nat.lt_of_lt_of_le I.lt hb),I.nofs hb,.inr (Nat.le_trans I.sz hb),fun x c e z=>?_,fun p hp z=>?_⟩
  · obtain ⟨v,q⟩:=I.cell x c e
    exact absurd (Nat.lt_of_lt_of_le q.lt (by rw [z];exact hb)) (Nat.lt_irrefl _)
  · exact absurd (Nat.lt_of_lt_of_le (Heap.lt_size (I.pin p hp).1) (by rw [z];exact hb)) (Nat.lt_irrefl _)
structure Turn (P:Program) (w:World) (K:PySem.W.Frag) (tg:Expr) (J:It) (fp:List Addr) (it:Addr) (tn:Nat→Heap→Prop):Prop where
  mem:it∈fp
  obj:∀ i h,tn i h→∀ b∈fp,∃ o,h.get? b=some o∧∀ v,o.data≠.cell v
  keep:∀ i h h',tn i h→(∀ b∈fp,∀ o,h.get? b=some o→h'.get? b=some o)→tn i h'
  item:∀ (X:Cx),X.prog=P→X.w=w→X.K=K→X.calm=true→∀ (i:Nat) (pins:List (Addr×Obj)) (s:Shared) (σ:St) (H:Hp) (E:Value→Shared→Prop),Inv X pins σ H s→(∀ b∈fp,FpOk X pins H b)→tn i s.heap→J.go i H→
    wpAny (model P w) X.A (pyNext (.ref it)) (fun r s1=>∃ u,r=some u∧
      wpAny (model P w) X.A (letOwnedTupleGo tg (.ref it) u) (fun _ s2=>∃ x H',Inv X pins σ H' s2∧RelV x u∧J.yld i H x H'∧tn (i+1) s2.heap∧∀ b∈fp,H' b=none) E s1) E s
  done:∀ (X:Cx),X.prog=P→X.w=w→X.K=K→X.calm=true→∀ (i:Nat) (pins:List (Addr×Obj)) (s:Shared) (σ:St) (H:Hp) (E:Value→Shared→Prop),Inv X pins σ H s→(∀ b∈fp,FpOk X pins H b)→tn i s.heap→J.stop i H→
    wpAny (model P w) X.A (pyNext (.ref it)) (fun r s1=>r=none∧Inv X pins σ H s1) E s
  self:∀ (A:Around) (i:Nat) (s:Shared) (Q:Value→Shared→Prop) (E:Value→Shared→Prop),tn i s.heap→Q (.ref it) s→wpAny (model P w) A (pyIter (.ref it)) Q E s
noncomputable abbrev TI:=St→Hp→(It→Hp→Prop)→Prop
noncomputable def PIE (X:Cx) (pins:List (Addr×Obj)) (σ:St) (tg:Expr) (R:It→Hp→Prop) (itv:Value) (s2:Shared):Prop :=
  ∃ (it:Addr) (fp:List Addr) (tn:Nat→Heap→Prop) (J:It) (H':Hp),itv=.ref it∧Inv X pins σ H' s2∧Turn X.prog X.w X.K tg J fp it tn∧tn 0 s2.heap∧(∀ b∈fp,FpOk X pins H' b)∧R J H'
noncomputable def PI (X:Cx) (tg iter:Expr) (wi:TI):Prop :=
  ∀ (pins:List (Addr×Obj)) (s:Shared) (σ:St) (H:Hp) (R:It→Hp→Prop),Inv X pins σ H s→wi σ H R→
    wpAny (model X.prog X.w) X.A (eval iter X.env) (fun v s1=>wpAny (model X.prog X.w) X.A (pyIter v) (PIE X pins σ tg R) X.xe s1) X.xe s
theorem go_of {M:Model} {A:Around} {E:Value→Shared→Prop} {s:Shared} {tg:Expr} {it:Addr} {u:Value} {o:Obj} {n:String} {vs:Array Value} {Q:Unit→Shared→Prop} (ho:s.heap.get? it=some o) (hc:o.cls=.type n) (hd:o.data=.fields vs)
    (hn:["enumerate","zip","dict_itemiterator","dict_reverseitemiterator","odict_iterator","itertools.zip_longest","itertools.pairwise"].contains n=false) (hQ:Q () s):wpAny M A (letOwnedTupleGo tg (.ref it) u) Q E s:=by
  unfold letOwnedTupleGo
  cases tg <;> first
    | exact wpAny_pure hQ
    | (cases u <;> first
        | exact wpAny_pure hQ
        | (refine wpAny_bind (wpAny_load ho ?_)
           rw [hc,hd]
           show wpAny M A (if (["enumerate","zip","dict_itemiterator","dict_reverseitemiterator","odict_iterator","itertools.zip_longest","itertools.pairwise"].contains n&&vs[0]?==some (rawInt _))=true then _ else _) Q E s
           rw [if_neg (by intro h;rw [hn,Bool.false_and] at h;cases h)]
           exact wpAny_pure hQ))
noncomputable def Itl (K:PySem.W.Frag) (a:Addr):It :=
  ⟨fun i H=>∃ xs x,SqL K H a xs∧xs[i]?=some x,fun i H x H'=>H'=H∧∀ xs,SqL K H a xs→xs[i]?=some x,fun i H=>∃ xs,SqL K H a xs∧xs.length≤i⟩
noncomputable def Itr (lo:Int) (n:Nat):It:=⟨fun i _=>i<n,fun i H x H'=>H'=H∧x=.int (lo+i),fun i _=>n≤i⟩
theorem turn_list {P:Program} {w:World} {K:PySem.W.Frag} {tg:Expr} (a it:Addr):Turn P w K tg (Itl K a) [it] it (fun i h=>h.IsListIter it a i) where
  mem:=by simp
  obj:=fun i h st b hb=>by
    have e:b=it:=by simpa using hb
    subst e
    obtain ⟨o,e,c,d⟩:=st
    exact ⟨o,e,fun v z=>by rw [d] at z;cases z⟩
  keep:=fun i h h' st k=>st.at fun o e=>k it (by simp) o e
  item:=by
    intro X hP hw hK hc i pins s σ H E I hf st hg
    subst hP hw hK
    obtain ⟨xs,x,hq,hx⟩:=hg
    obtain ⟨its,rv,p,hz⟩:=I.list hq
    obtain ⟨u,hu,ru⟩:=rv.get hx
    obtain ⟨f0,f1,f2,f3,f4,f5⟩:=hf it (by simp)
    refine wpAny_pyNext_list_item st p.isList (x:=u) (by simpa using hu) fun h' st' sb=>?_
    have I1:Inv X pins σ H {s with heap:=h'}:=I.turned (t':=s.toks) (fun b o hb e=>(sb.2 b hb).trans e) f0 f1 f3 f4 f5
    obtain ⟨o,e,c,d⟩:=id st'
    exact ⟨u,rfl,go_of (s:={s with heap:=h'}) e c d (by decide) ⟨x,H,I1,ru,⟨rfl,fun ys hy=>by rw [I.list_inj hy hq];exact hx⟩,st',fun b hb=>(hf b hb).1⟩⟩
  done:=by
    intro X hP hw hK hc i pins s σ H E I hf st hg
    subst hP hw hK
    obtain ⟨xs,hq,hx⟩:=hg
    obtain ⟨its,rv,p,hz⟩:=I.list hq
    obtain ⟨f0,f1,f2,f3,f4,f5⟩:=hf it (by simp)
    have hl:=rv.length
    exact wpAny_pyNext_list_end (I.ok.hd hc) st p.isList (by simp;omega) fun h' eb=>⟨rfl,I.turned (t':=s.toks) (fun b o hb e=>eb b o hb e) f0 f1 f3 f4 f5⟩
  self:=fun _ _ _ _ _ st h=>wpAny_pyIter_listiter st h
theorem turn_range {P:Program} {w:World} {K:PySem.W.Frag} {tg:Expr} (it:Addr) (lo:Int) (n:Nat):Turn P w K tg (Itr lo n) [it] it (fun i h=>IsRangeIter h it (lo+(i:Nat)*1) ((n:Int) - (i:Nat)) 1) where
  mem:=by simp
  obj:=fun i h st b hb=>by
    have e:b=it:=by simpa using hb
    subst e
    exact ⟨_,st,fun v z=>by
      have z':Data.fields _=Data.cell v:=z
      cases z'⟩
  keep:=fun i h h' st k=>k it (by simp) _ st
  item:=by
    intro X hP hw hK hc i pins s σ H E I hf st hg
    subst hP hw hK
    obtain ⟨f0,f1,f2,f3,f4,f5⟩:=hf it (by simp)
    have W:=Walks.range (prog:=X.prog) (w:=X.w) (I.ok.hd hc) it lo 1 n
    refine W.item i s _ _ hg st fun v h' tk hv st' kk=>?_
    obtain ⟨t,rfl⟩:=hv
    have I1:Inv X pins σ H {s with heap:=h',toks:=tk}:=I.turned (fun b o hb e=>kk b o (by simpa using hb) e) f0 f1 f3 f4 f5
    refine ⟨_,rfl,go_of (s:={s with heap:=h',toks:=tk}) (n:="range_iterator") st' rfl rfl (by decide) ⟨.int (lo+i),H,I1,⟨t,?_⟩,⟨rfl,rfl⟩,st',fun b hb=>(hf b hb).1⟩⟩
    rw [Int.mul_one]
  done:=by
    intro X hP hw hK hc i pins s σ H E I hf st hg
    subst hP hw hK
    obtain ⟨f0,f1,f2,f3,f4,f5⟩:=hf it (by simp)
    exact wpAny_pyNext_range_end (I.ok.hd hc) st (by have:n≤i:=hg;omega) fun h' eb=>⟨rfl,I.turned (t':=s.toks) (fun b o hb e=>eb b o hb e) f0 f1 f3 f4 f5⟩
  self:=fun _ _ _ _ _ st h=>wpAny_pyIter_rangeiter st h
end L2
namespace L2
open PySem PySem.Spec PyProof.Rows
section
variable {X:Cx} {tg:Expr}
noncomputable def iList (K:PySem.W.Frag) (tl:TE):TI:=fun σ H R=>tl σ H fun x H1=>∃ a,x=.ref a∧(∃ xs,SqL K H1 a xs)∧R (Itl K a) H1
theorem pi_list {l:Expr} {tl:TE} (hl:PE X l tl):PI X tg l (iList X.K tl):=by
  intro pins s σ H R I h
  refine thn (hl pins s σ H _ I h) fun v s1 ⟨x,H1,I1,r1,q1⟩=>?_
  obtain ⟨a,e,⟨xs,hq⟩,q⟩:=q1
  subst e
  cases r1
  obtain ⟨its,rv,p,hz⟩:=I1.list hq
  refine wpAny_pyIter_list p.isList ?_
  refine ⟨s1.heap.objs.size,[s1.heap.objs.size],_,_,H1,rfl,I1.kept (t':=s1.toks) fun b o e=>Heap.get?_push_of_some _ e,turn_list a _,⟨_,Heap.get?_push_size _ rfl,rfl,rfl⟩,fun b hb=>?_,q⟩
  have e:b=s1.heap.objs.size:=by simpa using hb
  subst e
  exact I1.fpOk (Nat.le_refl _) (I1.hok.fresh (Nat.le_refl _))
theorem range_it {pins:List (Addr×Obj)} {σ:St} {H:Hp} {s:Shared} {R:It→Hp→Prop} {E:Value→Shared→Prop} {lo hi:Int} {t u v:Tok} {tk:Nat} (I:Inv X pins σ H s) (h1 : -(2 ^ 62)≤lo) (h2:lo<2 ^ 62) (h3 : -(2 ^ 62)≤hi) (h4:hi<2 ^ 62)
    (q:R (Itr lo (hi - lo).toNat) H):wpAny (model X.prog X.w) X.A (pyIter (.ref s.heap.objs.size)) (PIE X pins σ tg R) E {s with heap:=s.heap.push {cls:=.type "range",data:=.fields #[.int lo t,.int hi u,.int 1 v]},toks:=tk}:=by
  refine wpAny_pyIter_range (IsRange.new ..) (small_one h1 h2 h3 h4) ?_
  have I1:Inv X pins σ H {s with heap:=s.heap.push {cls:=.type "range",data:=.fields #[.int lo t,.int hi u,.int 1 v]},toks:=tk}:=I.kept fun b o e=>Heap.get?_push_of_some _ e
  refine ⟨(s.heap.push {cls:=.type "range",data:=.fields #[.int lo t,.int hi u,.int 1 v]}).objs.size,[(s.heap.push {cls:=.type "range",data:=.fields #[.int lo t,.int hi u,.int 1 v]}).objs.size],_,_,H,rfl,
    I1.kept (t':=tk) fun b o e=>Heap.get?_push_of_some _ e,turn_range _ lo (hi - lo).toNat,?_,fun b hb=>?_,q⟩
  · have e1:lo+((0:Nat):Int)*1=lo:=by simp
    have e2:(((hi - lo).toNat:Nat):Int) - ((0:Nat):Int)=Builtin.Range.rangeSize lo hi 1:=by rw [rangeSize_one];split <;> omega
    show IsRangeIter _ _ (lo+((0:Nat):Int)*1) ((((hi - lo).toNat:Nat):Int) - ((0:Nat):Int)) 1
    rw [e1,e2]
    exact Heap.get?_push_size _ rfl
  · have e:b=(s.heap.push {cls:=.type "range",data:=.fields #[.int lo t,.int hi u,.int 1 v]}).objs.size:=by simpa using hb
    subst e
    exact I1.fpOk (Nat.le_refl _) (I1.hok.fresh (Nat.le_refl _))
noncomputable def iRng1 (ta:TA):TI:=fun σ H R=>ta σ H fun vs H1=>∃ j:Int,vs=[.int j]∧-(2 ^ 62)≤j∧j<2 ^ 62∧R (Itr 0 j.toNat) H1
noncomputable def iRng2 (ta:TA):TI:=fun σ H R=>ta σ H fun vs H1=>∃ i j:Int,vs=[.int i,.int j]∧(-(2 ^ 62)≤i∧i<2 ^ 62∧-(2 ^ 62)≤j∧j<2 ^ 62)∧R (Itr i (j - i).toNat) H1
theorem pi_range1 {a:Expr} {ta:TA} {p pos:Pos} (hg:Gl X "range") (hm:X.mg "range"=none) (ha:PA X [a] ta) (hs:starEach [a] X.env=[(false,eval a X.env)]:=by rfl):PI X tg (.Call (.Name "range" p) [a] [] pos) (iRng1 ta):=by
  intro pins s σ H R I h
  refine Call_ (ld_blt I hg hm boot_range (PyProof.Rows.callWith_type1 (thn (ha pos pins s σ H _ I h) fun us s1 ⟨vs,H1,I1,r1,q1⟩=>?_) hs rfl))
  obtain ⟨j,e,q1,q2,q⟩:=q1
  subst e
  cases r1 with
  | cons r rr =>
    cases rr
    obtain ⟨t,rfl⟩:=r
    exact call_range_1 (range_it I1 (by omega) (by omega) q1 q2 (by simpa using q))
theorem pi_range2 {a b:Expr} {ta:TA} {p pos:Pos} (hg:Gl X "range") (hm:X.mg "range"=none) (ha:PA X [a,b] ta) (hs:starEach [a,b] X.env=[(false,eval a X.env),(false,eval b X.env)]:=by rfl) (hs2:starEach [b] X.env=[(false,eval b X.env)]:=by rfl) :
    PI X tg (.Call (.Name "range" p) [a,b] [] pos) (iRng2 ta):=by
  intro pins s σ H R I h
  refine Call_ (ld_blt I hg hm boot_range (PyProof.Rows.callWith_type1 (thn (ha pos pins s σ H _ I h) fun us s1 ⟨vs,H1,I1,r1,q1⟩=>?_) (by rw [hs,hs2]) (by rw [hs2];rfl)))
  obtain ⟨i,j,e,⟨q1,q2,q3,q4⟩,q⟩:=q1
  subst e
  cases r1 with
  | cons r rr =>
    cases rr with
    | cons r' rr =>
      cases rr
      obtain ⟨t,rfl⟩:=r
      obtain ⟨t',rfl⟩:=r'
      exact call_range_2 (range_it I1 q1 q2 q3 q4 q)
noncomputable def tFor (wi:TI) (g:TG) (tb:TS):TS:=fun D σ H=>wi σ H fun J H1=>∃ W:Nat→Nat→St→Hp→Prop,(∃ m,W 0 m σ H1)∧∀ i m σ H,W i m σ H→
  (J.stop i H∧D.nx σ H)∨(J.go i H∧∃ N:St→Hp→Prop,(∀ σ' H',N σ' H'→∃ m',m'<m∧W (i+1) m' σ' H')∧∀ x H',J.yld i H x H'→g x σ H' fun σ2 H2=>tb {D with nx:=N,ct:=N,bk:=D.nx} σ2 H2)
noncomputable def pinsAt (fp:List Addr) (h:Heap):List (Addr×Obj):=fp.filterMap fun b=>(h.get? b).map fun o=>(b,o)
theorem mem_pinsAt {fp:List Addr} {h:Heap} {b:Addr} {o:Obj} (hb:b∈fp) (e:h.get? b=some o):(b,o)∈pinsAt fp h:=List.mem_filterMap.mpr ⟨b,hb,by rw [e];rfl⟩
theorem of_pinsAt {fp:List Addr} {h:Heap} {p:Addr×Obj} (hp:p∈pinsAt fp h):p.1∈fp∧h.get? p.1=some p.2:=by
  obtain ⟨b,hb,e⟩:=List.mem_filterMap.mp hp
  cases q:h.get? b with
  | none=>rw [q] at e;cases e
  | some o =>
    rw [q] at e
    have e':(b,o)=p:=Option.some.inj e
    subst e'
    exact ⟨hb,q⟩
theorem Inv.pinned {pins:List (Addr×Obj)} {σ:St} {H:Hp} {s:Shared} {fp:List Addr} (I:Inv X pins σ H s) (hf:∀ b∈fp,FpOk X pins H b) (ho:∀ b∈fp,∃ o,s.heap.get? b=some o∧∀ v,o.data≠.cell v):Inv X (pins++pinsAt fp s.heap) σ H s :=
  I.pins_of fun p hp=>(List.mem_append.mp hp).elim (fun z=>I.pin p (List.mem_append_right _ z)) fun z=>by
    obtain ⟨hb,e⟩:=of_pinsAt z
    obtain ⟨f0,f1,f2,_⟩:=hf p.1 hb
    obtain ⟨o,e',d⟩:=ho p.1 hb
    rw [e] at e';cases e'
    exact ⟨e,f0,f1,f2,d⟩
theorem Inv.unpinned {pins pl:List (Addr×Obj)} {σ:St} {H:Hp} {s:Shared} (I:Inv X (pins++pl) σ H s):Inv X pins σ H s:=I.pins_of fun p hp=>I.pin p (List.mem_append_right _ (List.mem_append_left _ hp))
theorem ps_for {iter:Expr} {body:List Stmt} {wi:TI} {g:TG} {tb:TS} {pos:Pos} (hp:PassesOwn (model X.prog X.w) X.A X.env X.xe) (hc:X.calm=true) (hi:PI X tg iter wi) (hg:PG X tg g) (hb:PSs X body tb)
    (hs:∀ x,foldedSetIterable iter X.env x=pure x:=by intro _;rfl):PS X (.For tg iter body [] pos) (tFor wi g tb):=by
  intro pins s σ H D I h
  refine wpAny_For (thn (hi pins s σ H _ I h) fun v s1 h1=>thn h1 fun itv s2 h2=>?_) hs
  obtain ⟨it,fp,tn,J,H2,e,I2,T,st2,f2,W,⟨m0,w0⟩,turn⟩:=h2
  subst e
  -- what stays true of the iterator's objects through the loop
  have stat:∀ {H':Hp},(∀ b∈fp,H' b=none)→∀ b∈fp,FpOk X pins H' b:=fun hn b hb=>⟨hn b hb,(f2 b hb).2⟩
  refine codeAny_forLoop_any (fun n s'=>∃ i σ' H',Inv X pins σ' H' s'∧tn i s'.heap∧(∀ b∈fp,H' b=none)∧W i n σ' H') ?_ m0 ⟨0,σ,H2,I2,st2,fun b hb=>(f2 b hb).1,w0⟩
  rintro n s3 ⟨i,σ3,H3,I3,st3,fr3,w3⟩
  rcases turn i n σ3 H3 w3 with ⟨stop,qn⟩ | ⟨go,N,hN,step⟩
  · refine wpAny_passesOwn hp (thn (T.done X rfl rfl rfl hc i pins s3 σ3 H3 X.xe I3 (stat fr3) st3 stop) fun r s4 ⟨hr,I4⟩=>?_)
    subst hr
    exact wpAny_execs_nil ⟨σ3,H3,I4,qn⟩
  · refine wpAny_passesOwn hp (thn (T.item X rfl rfl rfl hc i pins s3 σ3 H3 X.xe I3 (stat fr3) st3 go) fun r s4 ⟨u,hr,h4⟩=>?_)
    subst hr
    refine wpAny_passesOwn hp (thn h4 fun _ s5 ⟨x,H5,I5,r5,y5,st5,fr5⟩=>?_)
    have I5':=I5.pinned (stat fr5) (T.obj _ _ st5)
    refine wpAny_passesOwn hp (thn (hg _ s5 σ3 H5 x u _ I5' r5 (step x H5 y5)) fun _ s6 ⟨σ6,H6,I6,q6⟩=>?_)
    refine wpAny_passesOwn hp (thn (hb _ s6 σ6 H6 _ I6 q6) fun f s7 q7=>?_)
    have again:∀ {σ7:St} {H7:Hp},Inv X (pins++pinsAt fp s5.heap) σ7 H7 s7→N σ7 H7→∃ m,m<n∧∃ i σ' H',Inv X pins σ' H' s7∧tn i s7.heap∧(∀ b∈fp,H' b=none)∧W i m σ' H':=fun {σ7 H7} I7 n7=>by
      obtain ⟨m',hm,w7⟩:=hN σ7 H7 n7
      refine ⟨m',hm,i+1,σ7,H7,I7.unpinned,T.keep _ _ _ st5 fun b hb o e=>(I7.pin (b,o) (List.mem_append_right _ (List.mem_append_right _ (mem_pinsAt hb e)))).1,fun b hb=>?_,w7⟩
      obtain ⟨o,e,d⟩:=T.obj _ _ st5 b hb
      exact (I7.pin (b,o) (List.mem_append_right _ (List.mem_append_right _ (mem_pinsAt hb e)))).2.1
    cases f with
    | next=>obtain ⟨σ7,H7,I7,n7⟩:=q7;exact again I7 n7
    | cont=>obtain ⟨σ7,H7,I7,n7⟩:=q7;exact again I7 n7
    | brk=>obtain ⟨σ7,H7,I7,q7⟩:=q7;exact ⟨σ7,H7,I7.unpinned,q7⟩
    | ret v=>obtain ⟨x7,σ7,H7,I7,r7,q7⟩:=q7;exact ⟨x7,σ7,H7,I7.unpinned,r7,q7⟩
end
theorem for_list {K:PySem.W.Frag} {a:Addr} {xs:List V} {g:TG} {tb:TS} {D:Ends} {σ:St} {H:Hp} (Pv:Nat→St→Hp→Prop) (h0:Pv 0 σ H) (hl:∀ i σ H,i≤xs.length→Pv i σ H→SqL K H a xs)
    (hs:∀ i x σ H,xs[i]?=some x→Pv i σ H→g x σ H fun σ2 H2=>tb {D with nx:=Pv (i+1),ct:=Pv (i+1),bk:=D.nx} σ2 H2) (hd:∀ σ H,Pv xs.length σ H→D.nx σ H) :
    ∃ W:Nat→Nat→St→Hp→Prop,(∃ m,W 0 m σ H)∧∀ i m σ H,W i m σ H→
      ((Itl K a).stop i H∧D.nx σ H)∨((Itl K a).go i H∧∃ N:St→Hp→Prop,(∀ σ' H',N σ' H'→∃ m',m'<m∧W (i+1) m' σ' H')∧∀ x H',(Itl K a).yld i H x H'→g x σ H' fun σ2 H2=>tb {D with nx:=N,ct:=N,bk:=D.nx} σ2 H2):=by
  refine ⟨fun i m σ H=>m=xs.length - i∧i≤xs.length∧Pv i σ H,⟨xs.length,by simp,Nat.zero_le _,h0⟩,?_⟩
  rintro i m σ H ⟨rfl,hi,p⟩
  have q:=hl i σ H hi p
  by_cases hlt:i<xs.length
  · refine .inr ⟨⟨xs,xs[i],q,by simp [hlt]⟩,Pv (i+1),fun σ' H' p'=>⟨xs.length - (i+1),by omega,rfl,hlt,p'⟩,fun x H' y=>?_⟩
    obtain ⟨e,y⟩:=y
    subst e
    exact hs i x σ _ (y xs q) p
  · have e:i=xs.length:=by omega
    subst e
    exact .inl ⟨⟨xs,q,Nat.le_refl _⟩,hd σ H p⟩
theorem for_range {lo:Int} {n:Nat} {g:TG} {tb:TS} {D:Ends} {σ:St} {H:Hp} (Pv:Nat→St→Hp→Prop) (h0:Pv 0 σ H)
    (hs:∀ i σ H,i<n→Pv i σ H→g (.int (lo+i)) σ H fun σ2 H2=>tb {D with nx:=Pv (i+1),ct:=Pv (i+1),bk:=D.nx} σ2 H2) (hd:∀ σ H,Pv n σ H→D.nx σ H) :
    ∃ W:Nat→Nat→St→Hp→Prop,(∃ m,W 0 m σ H)∧∀ i m σ H,W i m σ H→
      ((Itr lo n).stop i H∧D.nx σ H)∨((Itr lo n).go i H∧∃ N:St→Hp→Prop,(∀ σ' H',N σ' H'→∃ m',m'<m∧W (i+1) m' σ' H')∧∀ x H',(Itr lo n).yld i H x H'→g x σ H' fun σ2 H2=>tb {D with nx:=N,ct:=N,bk:=D.nx} σ2 H2):=by
  refine ⟨fun i m σ H=>m=n - i∧i≤n∧Pv i σ H,⟨n,by simp,Nat.zero_le _,h0⟩,?_⟩
  rintro i m σ H ⟨rfl,hi,p⟩
  by_cases hlt:i<n
  · refine .inr ⟨hlt,Pv (i+1),fun σ' H' p'=>⟨n - (i+1),by omega,rfl,hlt,p'⟩,fun x H' y=>?_⟩
    obtain ⟨e,y⟩:=y
    subst e y
    exact hs i σ _ hlt p
  · have e:i=n:=by omega
    subst e
    exact .inl ⟨Nat.le_refl _,hd σ H p⟩
end L2
namespace L2
open PySem PySem.Spec PyProof.Rows
noncomputable abbrev R2:=V→V→Hp→VK→Prop
noncomputable def OpR (X:Cx) (f:Value→Value→Sem Value) (r:R2):Prop :=
  ∀ (pins:List (Addr×Obj)) (s:Shared) (σ:St) (H:Hp) (x y:V) (v u:Value) (Q:VK),Inv X pins σ H s→RelV x v→RelV y u→r x y H Q→
    wpAny (model X.prog X.w) X.A (f v u) (EP X pins σ Q) X.xe s
noncomputable def UnR (X:Cx) (f:Value→Sem Value) (r:V→Hp→VK→Prop):Prop :=
  ∀ (pins:List (Addr×Obj)) (s:Shared) (σ:St) (H:Hp) (x:V) (v:Value) (Q:VK),Inv X pins σ H s→RelV x v→r x H Q→
    wpAny (model X.prog X.w) X.A (f v) (EP X pins σ Q) X.xe s
noncomputable def CallR (X:Cx) (f:Value) (r:List V→Hp→VK→Prop):Prop :=
  ∀ (pins:List (Addr×Obj)) (s:Shared) (σ:St) (H:Hp) (xs:List V) (us:List Value) (Q:VK),Inv X pins σ H s→Vals xs us→r xs H Q→
    wpAny (model X.prog X.w) X.A (call f us) (EP X pins σ Q) X.xe s
noncomputable def tOp (r:R2) (ta tb:TE):TE:=fun σ H Q=>ta σ H fun x H1=>tb σ H1 fun y H2=>r x y H2 Q
noncomputable def tUn (r:V→Hp→VK→Prop) (ta:TE):TE:=fun σ H Q=>ta σ H fun x H1=>r x H1 Q
noncomputable def rI (C:Int→Int→Prop) (g:Int→Int→V):R2:=fun x y H Q=>∃ i j,x=.int i∧y=.int j∧C i j∧Q (g i j) H
noncomputable def rI0 (g:Int→Int→V):R2:=fun x y H Q=>∃ i j,x=.int i∧y=.int j∧Q (g i j) H
noncomputable def rU (g:Int→V):V→Hp→VK→Prop:=fun x H Q=>∃ i,x=.int i∧Q (g i) H
section
variable {X:Cx} {a b c:Expr} {ta tb tc:TE} {pos:Pos}
theorem binT (ha:PE X a ta) (hb:PE X b tb) {pins:List (Addr×Obj)} {s:Shared} {σ:St} {H:Hp} {R:V→V→Hp→Prop} (I:Inv X pins σ H s)
    (h:ta σ H fun x H1=>tb σ H1 fun y H2=>R x y H2) {Q:Value→Shared→Prop} {f:Value→Value→Sem Value}
    (hf:∀ v u s2 x y H2,Inv X pins σ H2 s2→RelV x v→RelV y u→R x y H2→wpAny (model X.prog X.w) X.A (f v u) Q X.xe s2) :
    wpAny (model X.prog X.w) X.A (eval a X.env) (fun v s₁=>wpAny (model X.prog X.w) X.A (eval b X.env) (fun u s₂=>wpAny (model X.prog X.w) X.A (f v u) Q X.xe s₂) X.xe s₁) X.xe s:=by
  refine thn (ha pins s σ H _ I h) fun v s1 ⟨x,H1,I1,r1,q1⟩=>?_
  refine thn (hb pins s1 σ H1 _ I1 q1) fun u s2 ⟨y,H2,I2,r2,q2⟩=>?_
  exact hf v u s2 x y H2 I2 r1 r2 q2
theorem pe_op {op:Operator} {r:R2} (ho:OpR X (binaryOp op) r) (ha:PE X a ta) (hb:PE X b tb):PE X (.BinOp a op b pos) (tOp r ta tb):=by
  intro pins s σ H Q I h
  exact wpAny_BinOp (binT ha hb I h fun v u s2 x y H2 I2 rx ry q=>ho pins s2 σ H2 x y v u Q I2 rx ry q)
theorem pe_un {op:UnaryOp} {r:V→Hp→VK→Prop} (ho:UnR X (unaryOp op) r) (ha:PE X a ta):PE X (.UnaryOp op a pos) (tUn r ta):=by
  intro pins s σ H Q I h
  exact UnaryOp_ (thn (ha pins s σ H _ I h) fun v s1 ⟨x,H1,I1,r1,q1⟩=>ho pins s1 σ H1 x v Q I1 r1 q1)
theorem opI {f:Value→Value→Sem Value} {C:Int→Int→Prop} {g:Int→Int→Int}
    (rule:∀ (i j:Int) (t u:Tok) (s:Shared) (Q:Value→Shared→Prop) (E:Value→Shared→Prop),C i j→Q (.int (g i j) s.toks) {s with toks:=s.toks+1}→wpAny (model X.prog X.w) X.A (f (.int i t) (.int j u)) Q E s) :
    OpR X f (rI C fun i j=>.int (g i j)):=by
  intro pins s σ H x y v u Q I rx ry h
  obtain ⟨i,j,rfl,rfl,hc,q⟩:=h
  obtain ⟨t,rfl⟩:=rx
  obtain ⟨t',rfl⟩:=ry
  exact rule i j t t' s _ _ hc ⟨.int (g i j),H,I.tok _,⟨_,rfl⟩,q⟩
theorem opI0 {f:Value→Value→Sem Value} {g:Int→Int→Int}
    (rule:∀ (i j:Int) (t u:Tok) (s:Shared) (Q:Value→Shared→Prop) (E:Value→Shared→Prop),Q (.int (g i j) s.toks) {s with toks:=s.toks+1}→wpAny (model X.prog X.w) X.A (f (.int i t) (.int j u)) Q E s) :
    OpR X f (rI0 fun i j=>.int (g i j)):=by
  intro pins s σ H x y v u Q I rx ry h
  obtain ⟨i,j,rfl,rfl,q⟩:=h
  obtain ⟨t,rfl⟩:=rx
  obtain ⟨t',rfl⟩:=ry
  exact rule i j t t' s _ _ ⟨.int (g i j),H,I.tok _,⟨_,rfl⟩,q⟩
theorem opB0 {f:Value→Value→Sem Value} {g:Int→Int→Bool}
    (rule:∀ (i j:Int) (t u:Tok) (s:Shared) (Q:Value→Shared→Prop) (E:Value→Shared→Prop),Q (.bool (g i j)) s→wpAny (model X.prog X.w) X.A (f (.int i t) (.int j u)) Q E s) :
    OpR X f (rI0 fun i j=>.bl (g i j)):=by
  intro pins s σ H x y v u Q I rx ry h
  obtain ⟨i,j,rfl,rfl,q⟩:=h
  obtain ⟨t,rfl⟩:=rx
  obtain ⟨t',rfl⟩:=ry
  exact rule i j t t' s _ _ ⟨.bl (g i j),H,I,rfl,q⟩
noncomputable def CDiv (i j:Int):Prop:=0<j∧j<1073741824
noncomputable def CPow (i j:Int):Prop:=0≤j∧j≤1000000∧i.natAbs<2 ^ 64
noncomputable def CMul (i j:Int):Prop:=(-(2 ^ 64)<i∧i<2 ^ 64)∨(-(2 ^ 64)<j∧j<2 ^ 64)
theorem CMul.ok {i j:Int} (h:CMul i j):IntMulOk i j:=by
  rcases h with ⟨h1,h2⟩ | ⟨h1,h2⟩
  · exact .of_left (intBits_le_64 h1 h2)
  · exact .of_right (intBits_le_64 h1 h2)
theorem op_add:OpR X (binaryOp .Add) (rI0 fun i j=>.int (i+j)):=opI0 fun _ _ _ _ _ _ _ q=>add_int q
theorem op_sub:OpR X (binaryOp .Sub) (rI0 fun i j=>.int (i - j)):=opI0 fun _ _ _ _ _ _ _ q=>sub_int q
theorem op_mul:OpR X (binaryOp .Mult) (rI CMul fun i j=>.int (i*j)):=opI fun _ _ _ _ _ _ _ hc q=>mul_int q hc.ok
theorem op_fdiv:OpR X (binaryOp .FloorDiv) (rI CDiv fun i j=>.int (i / j)):=opI fun i j _ _ _ _ _ hc q=>by
  have h1:(0:Int)<j:=hc.1
  have h2:j<1073741824:=hc.2
  exact floordiv_int (by omega) (by rw [Int.fdiv_eq_ediv_of_nonneg i (by omega)];exact q) (.inl (PyProof.noPylong_small (by omega)))
theorem op_mod:OpR X (binaryOp .Mod) (rI (fun _ j=>0<j) fun i j=>.int (i % j)):=opI fun i j _ _ _ _ _ hc q=>by
  have h1:(0:Int)<j:=hc
  exact mod_int' (by omega) (by rw [Int.fmod_eq_emod_of_nonneg i (by omega)];exact q)
theorem op_pow:OpR X (binaryOp .Pow) (rI CPow fun i j=>.int (i ^ j.toNat)):=opI fun _ _ _ _ _ _ _ hc q=>pow_int_small hc.1 hc.2.1 hc.2.2 q
theorem unI {f:Value→Sem Value} {g:Int→Int}
    (rule:∀ (i:Int) (t:Tok) (s:Shared) (Q:Value→Shared→Prop) (E:Value→Shared→Prop),Q (.int (g i) s.toks) {s with toks:=s.toks+1}→wpAny (model X.prog X.w) X.A (f (.int i t)) Q E s) :
    UnR X f (rU fun i=>.int (g i)):=by
  intro pins s σ H x v Q I rx h
  obtain ⟨i,rfl,q⟩:=h
  obtain ⟨t,rfl⟩:=rx
  exact rule i t s _ _ ⟨.int (g i),H,I.tok _,⟨_,rfl⟩,q⟩
theorem un_neg:UnR X (unaryOp .USub) (rU fun i=>.int (-i)):=unI fun _ _ _ _ _ q=>neg_int q
end
noncomputable def scal:V→V→Bool
  | .non,.non=>true | .non,.int _=>true | .int _,.non=>true | .non,.bl _=>true | .bl _,.non=>true | .non,.str _=>true | .str _,.non=>true
  | .int _,.int _=>true | .bl _,.bl _=>true | .str _,.str _=>true | .byt _,.byt _=>true
  | .int _,.str _=>true | .str _,.int _=>true | .bl _,.str _=>true | .str _,.bl _=>true
  | _,_=>false
noncomputable def rEq:R2:=fun x y H Q=>scal x y=true∧Q (.bl (decide (x=y))) H
noncomputable def rNe:R2:=fun x y H Q=>scal x y=true∧Q (.bl (!decide (x=y))) H
theorem dec_int {i j:Int}:decide (V.int i=V.int j)=(i==j):=by
  rw [Bool.eq_iff_iff]
  simp
theorem dec_bl {i j:Bool}:decide (V.bl i=V.bl j)=(i==j):=by
  rw [Bool.eq_iff_iff]
  simp
theorem dec_str {i j:Str}:decide (V.str i=V.str j)=(i==j):=by
  rw [Bool.eq_iff_iff]
  simp
theorem dec_byt {i j:Array UInt8}:decide (V.byt i=V.byt j)=(i.toList==j.toList):=by
  rw [Bool.eq_iff_iff]
  cases i
  cases j
  simp
section
variable {X:Cx} {a b c:Expr} {ta tb tc:TE} {pos:Pos}
theorem fin_bl {pins:List (Addr×Obj)} {σ:St} {H:Hp} {s:Shared} {Q:VK} {k k':Bool} (I:Inv X pins σ H s) (q:Q (.bl k) H) (e:k=k'):EP X pins σ Q (.bool k') s:=by
  subst e
  exact ⟨.bl k,H,I,rfl,q⟩
theorem op_eq:OpR X (compareOp .Eq) rEq:=by
  intro pins s σ H x y v u Q I rx ry h
  obtain ⟨hs,q⟩:=h
  cases x with
  | non =>
    cases rx
    cases y with
    | non=>cases ry;exact PySem.EqNone.eq_none_none (fin_bl I q (by simp))
    | bl j=>cases ry;exact PySem.EqNone.eq_none_bool (fin_bl I q (by simp))
    | int j=>obtain ⟨t',rfl⟩:=ry;exact PySem.EqNone.eq_none_int (fin_bl I q (by simp))
    | str j=>obtain ⟨t',rfl⟩:=ry;exact PySem.EqNone.eq_none_str (fin_bl I q (by simp))
    | _=>exact absurd (show false=true from hs) Bool.false_ne_true
  | bl i =>
    cases rx
    cases y with
    | non=>cases ry;exact PySem.EqNone.eq_bool_none (fin_bl I q (by simp))
    | bl j=>cases ry;exact eq_bool (fin_bl I q dec_bl)
    | str j=>obtain ⟨t',rfl⟩:=ry;exact PySem.EqMixed.eq_bool_str (fin_bl I q (by simp))
    | _=>exact absurd (show false=true from hs) Bool.false_ne_true
  | int i =>
    obtain ⟨t,rfl⟩:=rx
    cases y with
    | non=>cases ry;exact PySem.EqNone.eq_int_none (fin_bl I q (by simp))
    | int j=>obtain ⟨t',rfl⟩:=ry;exact eq_int (fin_bl I q dec_int)
    | str j=>obtain ⟨t',rfl⟩:=ry;exact PySem.EqMixed.eq_int_str (fin_bl I q (by simp))
    | _=>exact absurd (show false=true from hs) Bool.false_ne_true
  | str i =>
    obtain ⟨t,rfl⟩:=rx
    cases y with
    | non=>cases ry;exact PySem.EqNone.eq_str_none (fin_bl I q (by simp))
    | bl j=>cases ry;exact PySem.EqMixed.eq_str_bool (fin_bl I q (by simp))
    | int j=>obtain ⟨t',rfl⟩:=ry;exact PySem.EqMixed.eq_str_int (fin_bl I q (by simp))
    | str j=>obtain ⟨t',rfl⟩:=ry;exact eq_str (fin_bl I q dec_str)
    | _=>exact absurd (show false=true from hs) Bool.false_ne_true
  | byt i =>
    obtain ⟨t,rfl⟩:=rx
    cases y with
    | byt j=>obtain ⟨t',rfl⟩:=ry;exact PySem.W.eq_bytes (fin_bl I q dec_byt)
    | _=>exact absurd (show false=true from hs) Bool.false_ne_true
  | _=>cases y <;> exact absurd (show false=true from hs) Bool.false_ne_true
theorem op_ne:OpR X (compareOp .NotEq) rNe:=by
  intro pins s σ H x y v u Q I rx ry h
  obtain ⟨hs,q⟩:=h
  cases x with
  | non =>
    cases rx
    cases y with
    | non=>cases ry;exact PySem.EqNone.ne_none_none (fin_bl I q (by simp))
    | bl j=>cases ry;exact PySem.EqNone.ne_none_bool (fin_bl I q (by simp))
    | int j=>obtain ⟨t',rfl⟩:=ry;exact PySem.EqNone.ne_none_int (fin_bl I q (by simp))
    | str j=>obtain ⟨t',rfl⟩:=ry;exact PySem.EqNone.ne_none_str (fin_bl I q (by simp))
    | _=>exact absurd (show false=true from hs) Bool.false_ne_true
  | bl i =>
    cases rx
    cases y with
    | non=>cases ry;exact PySem.EqNone.ne_bool_none (fin_bl I q (by simp))
    | bl j=>cases ry;exact ne_bool (fin_bl I q (congrArg not dec_bl))
    | str j=>obtain ⟨t',rfl⟩:=ry;exact PySem.EqMixed.ne_bool_str (fin_bl I q (by simp))
    | _=>exact absurd (show false=true from hs) Bool.false_ne_true
  | int i =>
    obtain ⟨t,rfl⟩:=rx
    cases y with
    | non=>cases ry;exact PySem.EqNone.ne_int_none (fin_bl I q (by simp))
    | int j=>obtain ⟨t',rfl⟩:=ry;exact ne_int (fin_bl I q (congrArg not dec_int))
    | str j=>obtain ⟨t',rfl⟩:=ry;exact PySem.EqMixed.ne_int_str (fin_bl I q (by simp))
    | _=>exact absurd (show false=true from hs) Bool.false_ne_true
  | str i =>
    obtain ⟨t,rfl⟩:=rx
    cases y with
    | non=>cases ry;exact PySem.EqNone.ne_str_none (fin_bl I q (by simp))
    | bl j=>cases ry;exact PySem.EqMixed.ne_str_bool (fin_bl I q (by simp))
    | int j=>obtain ⟨t',rfl⟩:=ry;exact PySem.EqMixed.ne_str_int (fin_bl I q (by simp))
    | str j=>obtain ⟨t',rfl⟩:=ry;exact ne_str (fin_bl I q (congrArg not dec_str))
    | _=>exact absurd (show false=true from hs) Bool.false_ne_true
  | byt i =>
    obtain ⟨t,rfl⟩:=rx
    cases y with
    | byt j=>obtain ⟨t',rfl⟩:=ry;exact PySem.W.ne_bytes (fin_bl I q (congrArg not dec_byt))
    | _=>exact absurd (show false=true from hs) Bool.false_ne_true
  | _=>cases y <;> exact absurd (show false=true from hs) Bool.false_ne_true
theorem op_lt:OpR X (compareOp .Lt) (rI0 fun i j=>.bl (decide (i<j))):=opB0 fun _ _ _ _ _ _ _ q=>lt_int q
theorem op_le:OpR X (compareOp .LtE) (rI0 fun i j=>.bl (decide (i≤j))):=opB0 fun _ _ _ _ _ _ _ q=>le_int q
theorem op_gt:OpR X (compareOp .Gt) (rI0 fun i j=>.bl (decide (j<i))):=opB0 fun _ _ _ _ _ _ _ q=>gt_int q
theorem op_ge:OpR X (compareOp .GtE) (rI0 fun i j=>.bl (decide (j≤i))):=opB0 fun _ _ _ _ _ _ _ q=>ge_int q
theorem op_isN:OpR X (compareOp .Is) (fun x y H Q=>y=.non∧Q (.bl (decide (x=.non))) H):=by
  intro pins s σ H x y v u Q I rx ry h
  obtain ⟨rfl,q⟩:=h
  cases ry
  refine is_none_gen (fin_bl I q ?_)
  cases x <;> first
    | (cases rx;rfl)
    | (obtain ⟨t,rfl⟩:=rx;rfl)
theorem nomark (b:Expr) {op:CmpOp} (h:op≠.In:=by decide) (h2:op≠.NotIn:=by decide):behindInMarks op b=false:=by
  have e1:(op==CmpOp.In)=false:=by cases op <;> first | rfl | exact absurd rfl h
  have e2:(op==CmpOp.NotIn)=false:=by cases op <;> first | rfl | exact absurd rfl h2
  cases b <;> simp [behindInMarks,e1,e2]
theorem pe_cmpR {op:CmpOp} {r:R2} (ho:OpR X (compareOp op) r) (ha:PE X a ta) (hb:PE X b tb) (hm:behindInMarks op b=false):PE X (.Compare a [op] [b] pos) (tOp r ta tb):=by
  intro pins s σ H Q I h
  exact wpAny_Compare1 (binT ha hb I h fun v u s2 x y H2 I2 rx ry q=>ho pins s2 σ H2 x y v u Q I2 rx ry q) hm
noncomputable def tTest (t:TE):TT:=fun σ H Q=>t σ H fun x H'=>∃ k,x=.bl k∧Q k H'
theorem pt_cmpR {op:CmpOp} {r:R2} (ho:OpR X (compareOp op) r) (ha:PE X a ta) (hb:PE X b tb) (hm:behindInMarks op b=false):PT X (.Compare a [op] [b] pos) (tTest (tOp r ta tb)):=by
  intro pins s σ H Q I h
  refine wpAny_isTrue_Compare1 (thn (ha pins s σ H _ I h) fun v s1 ⟨x,H1,I1,r1,q1⟩=>thn (hb pins s1 σ H1 _ I1 q1) fun u s2 ⟨y,H2,I2,r2,q2⟩ =>
    thn (ho pins s2 σ H2 x y v u _ I2 r1 r2 q2) fun c s3 ⟨z,H3,I3,r3,k,e,q3⟩=>?_) hm
  subst e
  cases r3
  exact wpAny_truthy_bool ⟨H3,I3,q3⟩
noncomputable def tChain (r r':R2) (ta tb tc:TE):TE:=fun σ H Q=>ta σ H fun x H1=>tb σ H1 fun y H2=>r x y H2 fun z H3=>∃ k,z=.bl k∧
  (if k=true then tc σ H3 fun w' H4=>r' y w' H4 Q else Q (.bl false) H3)
theorem pe_chain {op op':CmpOp} {r r':R2} (ho:OpR X (compareOp op) r) (ho':OpR X (compareOp op') r') (ha:PE X a ta) (hb:PE X b tb) (hc:PE X c tc)
    (hm:lastMarks [op,op'] [b,c]=false:=by with_unfolding_all rfl):PE X (.Compare a [op,op'] [b,c] pos) (tChain r r' ta tb tc):=by
  intro pins s σ H Q I h
  refine Compare_chain (thn (ha pins s σ H _ I h) fun v s1 ⟨x,H1,I1,r1,q1⟩=>chain_link (thn (hb pins s1 σ H1 _ I1 q1) fun u s2 ⟨y,H2,I2,r2,q2⟩ =>
    thn (ho pins s2 σ H2 x y v u _ I2 r1 r2 q2) fun d s3 ⟨z,H3,I3,r3,k,e,q3⟩=>?_)) hm
  subst e
  cases r3
  refine wpAny_truthy_bool ?_
  cases k with
  | false=>exact ite_ff ⟨.bl false,H3,I3,rfl,q3⟩
  | true=>exact ite_tt (chain_last (thn (hc pins s3 σ H3 _ I3 q3) fun w' s4 ⟨z',H4,I4,r4,q4⟩=>ho' pins s4 σ H4 y z' u w' Q I4 r2 r4 q4))
theorem pt_chain {op op':CmpOp} {r r':R2} (ho:OpR X (compareOp op) r) (ho':OpR X (compareOp op') r') (ha:PE X a ta) (hb:PE X b tb) (hc:PE X c tc)
    (hm:lastMarks [op,op'] [b,c]=false:=by with_unfolding_all rfl):PT X (.Compare a [op,op'] [b,c] pos) (tTest (tChain r r' ta tb tc)):=by
  intro pins s σ H Q I h
  refine isTrue_chain (thn (ha pins s σ H _ I h) fun v s1 ⟨x,H1,I1,r1,q1⟩=>test_link (thn (hb pins s1 σ H1 _ I1 q1) fun u s2 ⟨y,H2,I2,r2,q2⟩ =>
    thn (ho pins s2 σ H2 x y v u _ I2 r1 r2 q2) fun d s3 ⟨z,H3,I3,r3,k,e,q3⟩=>?_)) hm
  subst e
  cases r3
  refine wpAny_truthy_bool ?_
  cases k with
  | false =>
    obtain ⟨k',e',q'⟩:=q3
    cases e'
    exact ite_ff ⟨H3,I3,q'⟩
  | true =>
    refine ite_tt (test_last (thn (hc pins s3 σ H3 _ I3 q3) fun w' s4 ⟨z',H4,I4,r4,q4⟩=>thn (ho' pins s4 σ H4 y z' u w' _ I4 r2 r4 q4) fun d' s5 ⟨z2,H5,I5,r5,k2,e2,q5⟩=>?_))
    subst e2
    cases r5
    exact wpAny_truthy_bool ⟨H5,I5,q5⟩
theorem line63:(sizeLine:Nat)<2 ^ 63:=by rw [sizeLine_eq];decide
theorem vals1 {x:V} {us:List Value} (r:Vals [x] us):∃ u,us=[u]∧RelV x u:=by
  cases r with
  | cons r1 r2=>cases r2;exact ⟨_,rfl,r1⟩
theorem vals2 {x y:V} {us:List Value} (r:Vals [x,y] us):∃ u w',us=[u,w']∧RelV x u∧RelV y w':=by
  cases r with
  | cons r1 r2 =>
    cases r2 with
    | cons r3 r4=>cases r4;exact ⟨_,_,rfl,r1,r3⟩
theorem call_max2 (hc:X.calm=true):CallR X (.builtin "max") (fun xs H Q=>∃ i j,xs=[.int i,.int j]∧Q (.int (if j>i then j else i)) H):=by
  intro pins s σ H xs us Q I r h
  obtain ⟨i,j,rfl,q⟩:=h
  obtain ⟨u,w',rfl,⟨t,rfl⟩,⟨t',rfl⟩⟩:=vals2 r
  refine max_two_ints (I.ok.hd hc) fun h' tk k=>⟨_,H,I.kept k,?_,q⟩
  by_cases hj:j>i
  · rw [if_pos hj,if_pos hj];exact ⟨_,rfl⟩
  · rw [if_neg hj,if_neg hj];exact ⟨_,rfl⟩
theorem call_min2 (hc:X.calm=true):CallR X (.builtin "min") (fun xs H Q=>∃ i j,xs=[.int i,.int j]∧Q (.int (if j<i then j else i)) H):=by
  intro pins s σ H xs us Q I r h
  obtain ⟨i,j,rfl,q⟩:=h
  obtain ⟨u,w',rfl,⟨t,rfl⟩,⟨t',rfl⟩⟩:=vals2 r
  refine min_two_ints (I.ok.hd hc) fun h' tk k=>⟨_,H,I.kept k,?_,q⟩
  by_cases hj:j<i
  · rw [if_pos hj,if_pos hj];exact ⟨_,rfl⟩
  · rw [if_neg hj,if_neg hj];exact ⟨_,rfl⟩
theorem call_int1:CallR X (.type "int") (fun xs H Q=>(∃ i,xs=[.int i]∧Q (.int i) H)∨∃ k,xs=[.bl k]∧Q (.int (if k then 1 else 0)) H):=by
  intro pins s σ H xs us Q I r h
  rcases h with ⟨i,rfl,q⟩ | ⟨k,rfl,q⟩
  · obtain ⟨u,rfl,t,rfl⟩:=vals1 r
    exact call_int_int ⟨.int i,H,I,⟨_,rfl⟩,q⟩
  · obtain ⟨u,rfl,r1⟩:=vals1 r
    cases r1
    exact call_int_bool ⟨.int (if k then 1 else 0),H,I.tok _,⟨_,rfl⟩,q⟩
end
end L2
namespace L2
open PySem PySem.Spec PyProof.Rows
structure ObjM (h:Heap) (x dx C:Addr) (mA:Str→Option Value):Prop where
  obj:h.get? x=some (PySem.W.instObj C dx)
  ns:h.Ns1 dx mA
  ne:dx≠x
theorem lookIn_ns {h:Heap} {dx:Addr} {mA:Str→Option Value} (n:h.Ns1 dx mA):∃ od,h.get? dx=some od∧∀ name,PySem.W.lookIn name od=some (mA name):=by
  obtain ⟨o,es,ep,ho,hd,hk,_,hm⟩:=n
  refine ⟨o,ho,fun name=>?_⟩
  have e:=hm name
  unfold nsFind findBy at e
  rw [← Array.find?_toList] at e
  unfold PySem.W.lookIn
  rw [hd]
  dsimp only
  split
  · rename_i y q
    rw [q] at e
    exact congrArg some e
  · rename_i q
    rw [q] at e
    have a:es.toList.any (·.refKey)=false:=by
      rw [List.any_eq_false]
      intro y hy
      obtain ⟨z,t,hkey⟩:=hk y (Array.mem_toList_iff.mp hy)
      simp [DictEntry.refKey,hkey]
    have a':¬ es.toList.any (·.refKey)=true:=by rw [a];exact Bool.false_ne_true
    rw [if_neg a']
    exact congrArg some e
theorem ObjM.look {h:Heap} {x dx C:Addr} {mA:Str→Option Value} (I:ObjM h x dx C mA):∃ od,PySem.W.InstAt h x (PySem.W.instObj C dx) C (some od)∧∀ name,PySem.W.lookIn name od=some (mA name) :=
  let ⟨od,ho,hl⟩:=lookIn_ns I.ns
  ⟨od,⟨I.obj,rfl,rfl,ho⟩,hl⟩
section
variable {prog:Program} {w:World} {A:Around} {E:Value→Shared→Prop} {s:Shared} {K:PySem.W.Frag} {x dx C f:Addr} {mA:Str→Option Value} {name:Str} {v:Value}
theorem get_map {expr:Bool} {Q:Value→Shared→Prop} (X:K.In s.heap) (I:ObjM s.heap x dx C mA) (hg:PySem.W.plainGet K C name=true) (hh:PySem.W.hasDictIn K C=true)
    (ha:PySem.W.findIn K (.ref C) name=some none) (hv:mA name=some v) (hv':PySem.W.handedIn v=true) (h:Q v {s with toks:=s.toks+1}) :
    wpAny (model prog w) A (getAttr (.ref x) name expr) Q E s:=by
  obtain ⟨od,J,hl⟩:=I.look
  exact PySem.W.get_value X J (PySem.W.plainGet_of hg).1 (PySem.W.findObj_own hh ha rfl (by rw [hl,hv])) hv' h
theorem get_meth {pl:Sem Bool} {Q:Value×List Value→Shared→Prop} (X:K.In s.heap) (I:ObjM s.heap x dx C mA) (hg:PySem.W.plainGet K C name=true)
    (hf:PySem.W.findIn K (.ref C) name=some (some (.ref f))) (ht:PySem.W.isFn K (.ref f)=true) (hv:mA name=none) (h:Q (.ref f,[.ref x]) s) :
    wpAny (model prog w) A (getMethod (.ref x) name pl) Q E s:=by
  obtain ⟨od,J,hl⟩:=I.look
  exact PySem.W.method_fn X J (PySem.W.plainGet_of hg).1 (PySem.W.plainGet_of hg).2 hf (beq_iff_eq.mp ht) (by show (PySem.W.lookIn name od).map (·.isSome)=some false;rw [hl,hv];rfl) h
theorem set_map {ns:List Str} {Q:Unit→Shared→Prop} (X:K.In s.heap) (I:ObjM s.heap x dx C mA)
    (hs:PySem.W.findIn K (.ref C) "__setattr__"=some (some (.builtin "object.__setattr__"))) (hp:PySem.W.plainOver K C=true) (ht:PySem.W.takerIn K C name=some none) (hh:PySem.W.hasDictIn K C=true)
    (hw:PySem.Within mA ns) (hsz:ns.length≤sizeLine)
    (h:∀ h',ObjM h' x dx C (fun y=>if y=name then some v else mA y)→Heap.SameBut dx s.heap h'→Q () {s with heap:=h',toks:=s.toks+2}) :
    wpAny (model prog w) A (setAttr (.ref x) name v) Q E s:=by
  obtain ⟨od,J,hl⟩:=I.look
  refine PySem.W.set_plain X J hs (PySem.W.osa_open (s:={s with toks:=s.toks+1}) (r:=none) X J hp ht fun b=>?_)
  obtain ⟨cd,hc,hd'⟩:=PySem.W.any_some hh
  have hx:s.heap.get? x=some ⟨.ref C,some dx,.plain,#[]⟩:=I.obj
  refine wpAny_bind (wpAny_pure (wpAny_bind (wpAny_bind (wpAny_loadPart hx (wpAny_bind (PySem.W.Looks.here (s:={s with toks:=s.toks+1}) (PySem.W.looks_clsIn X hc) ?_))))))
  rw [hd']
  refine wpAny_pure (a:=some dx) (wpAny_bind (wpAny_pure (wpAny_bind ?_)))
  refine wpAny_nsSet1 (s:={s with toks:=s.toks+1}) I.ns fun h' hn2 hs2=>?_
  obtain ⟨oD,esD,epD,hoD,hdD,hcD⟩:=hn2.count (PySem.Within.cons name v hw)
  refine wpAny_bind (wpAny_lookBehind hoD (by rw [hdD];exact pastItsLine_dict (Nat.le_trans hcD (by rw [List.length_cons];omega))) ?_)
  exact wpAny_pure (h _ ⟨(hs2.2 _ (Ne.symm I.ne)).trans I.obj,hn2,I.ne⟩ hs2)
theorem make_map {R:Result→Shared→Prop} {vs:List Value} {kw:List (Str×Value)} (X:K.In s.heap) (hm:PySem.W.makesIn K C=true)
    (hi:PySem.W.findIn K (.ref C) "__init__"=some (some (.ref f))) (hf:PySem.W.typeIn K (.ref f)=some (.type "function"))
    (h:codeAny (model prog w) (A.under (.builtin "type.__call__" ⟨.ref C::vs,kw⟩)) (.call (.ref f) ⟨.ref (s.heap.objs.size+1)::vs,kw⟩) (PySem.W.InitBack (s.heap.objs.size+1) R)
      {s with heap:=(s.heap.push PySem.W.emptyDict).push (PySem.W.instObj C s.heap.objs.size)}) :
    codeAny (model prog w) A (.call (.ref C) ⟨vs,kw⟩) R s:=by
  obtain ⟨hh,g,d,t,os⟩:=s
  exact PySem.W.make_core (PySem.W.makes_of X hm) (PySem.W.looks_findIn X hi) (fun self=>PySem.W.bind_fn X self hf) (.inl rfl) h
end
noncomputable def putF (f:Str) (v:V):List (Str×V)→List (Str×V)
  | []=>[(f,v)]
  | (g,x)::r=>if g=f then (g,v)::r else (g,x)::putF f v r
theorem lookup_putF (f g:Str) (v:V):∀ fs:List (Str×V),(putF f v fs).lookup g=if g=f then some v else fs.lookup g
  | []=>by
    show List.lookup g [(f,v)]=_
    by_cases h:g=f
    · have hb:(g==f)=true:=beq_iff_eq.mpr h
      simp only [List.lookup,hb,if_pos h]
    · have hb:(g==f)=false:=beq_eq_false_iff_ne.mpr h
      simp only [List.lookup,hb,if_neg h]
  | (k,x)::r=>by
    have ih:=lookup_putF f g v r
    rw [show putF f v ((k,x)::r)=(if k=f then (k,v)::r else (k,x)::putF f v r) from rfl]
    by_cases hk:k=f
    · rw [if_pos hk]
      by_cases h:g=k
      · have hb:(g==k)=true:=beq_iff_eq.mpr h
        simp only [List.lookup,hb,if_pos (h.trans hk)]
      · have hb:(g==k)=false:=beq_eq_false_iff_ne.mpr h
        simp only [List.lookup,hb,if_neg (fun e:g=f=>h (e.trans hk.symm))]
    · rw [if_neg hk]
      by_cases h:g=k
      · have hb:(g==k)=true:=beq_iff_eq.mpr h
        simp only [List.lookup,hb,if_neg (fun e:g=f=>hk (h.symm.trans e))]
      · have hb:(g==k)=false:=beq_eq_false_iff_ne.mpr h
        simp only [List.lookup,hb]
        exact ih
theorem keys_putF (f:Str) (v:V):∀ fs:List (Str×V),f∈(putF f v fs).map (·.1)∧∀ g,g∈fs.map (·.1)→g∈(putF f v fs).map (·.1)
  | []=>⟨by simp [putF],fun g h=>by simp at h⟩
  | (k,x)::r=>by
    obtain ⟨i1,i2⟩:=keys_putF f v r
    rw [show putF f v ((k,x)::r)=(if k=f then (k,v)::r else (k,x)::putF f v r) from rfl]
    by_cases hk:k=f
    · rw [if_pos hk]
      subst hk
      exact ⟨by simp,fun g h=>by simpa using h⟩
    · rw [if_neg hk]
      refine ⟨?_,fun g h=>?_⟩
      · rw [List.map_cons]
        exact List.mem_cons_of_mem _ i1
      · rw [List.map_cons] at h⊢
        rcases List.mem_cons.mp h with e | e
        · exact List.mem_cons.mpr (.inl e)
        · exact List.mem_cons_of_mem _ (i2 g e)
theorem length_putF (f:Str) (v:V):∀ fs:List (Str×V),(putF f v fs).length≤fs.length+1
  | []=>by simp [putF]
  | (k,x)::r=>by
    have ih:=length_putF f v r
    rw [show putF f v ((k,x)::r)=(if k=f then (k,v)::r else (k,x)::putF f v r) from rfl]
    by_cases hk:k=f
    · rw [if_pos hk,List.length_cons,List.length_cons];omega
    · rw [if_neg hk,List.length_cons,List.length_cons];omega
theorem RelO.some_of {v:V} {o:Option Value} (r:RelO (some v) o):∃ u,o=some u∧RelV v u:=by
  cases o with
  | none=>exact (show False from r).elim
  | some u=>exact ⟨u,rfl,r⟩
theorem RelO.none_of {o:Option Value} (r:RelO none o):o=none:=by
  cases o with
  | none=>rfl
  | some u=>exact (show False from r).elim
theorem handed_of {v:V} {u:Value} (r:RelV v u):PySem.W.handedIn u=true:=by
  cases v with
  | non=>cases (show u=Value.none from r);rfl
  | bl b=>cases (show u=Value.bool b from r);rfl
  | int i=>obtain ⟨t,e⟩:=(show ∃ t,u=Value.int i t from r);cases e;rfl
  | str x=>obtain ⟨t,e⟩:=(show ∃ t,u=Value.str x t from r);cases e;rfl
  | byt b=>obtain ⟨t,e⟩:=(show ∃ t,u=Value.bytes b t from r);cases e;rfl
  | flt b=>obtain ⟨t,e⟩:=(show ∃ t,u=Value.float b t from r);cases e;rfl
  | ref a=>cases (show u=Value.ref a from r);rfl
  | ty n=>cases (show u=Value.type n from r);rfl
section
variable {P:Program} {w:World} {H H':Hp} {h h':Heap} {a C dx:Addr} {fs fs':List (Str×V)}
theorem ins_get (hok:HOk P w H h) (e:H a=some (.ins C dx fs)):∃ mA,ObjM h a dx C mA∧(∀ f,RelO (fs.lookup f) (mA f))∧PySem.Within mA (fs.map (·.1))∧fs.length≤1000∧H dx=some (.own a):=by
  obtain ⟨d,z,ne,ob,mA,n,r,q⟩:=(show ObjOk P w H h a (.ins C dx fs) from hok a _ e)
  exact ⟨mA,⟨ob,n,ne⟩,r,q,z,d⟩
end
structure Cls (K:PySem.W.Frag) (C:Addr):Prop where
  pg:PySem.W.plainGet K C Str.empty=true
  hd:PySem.W.hasDictIn K C=true
  po:PySem.W.plainOver K C=true
  sa:PySem.W.findIn K (.ref C) "__setattr__"=some (some (.builtin "object.__setattr__"))
theorem Cls.get {K:PySem.W.Frag} {C:Addr} (c:Cls K C) (f:Str):PySem.W.plainGet K C f=true:=c.pg
noncomputable def NoAttr (K:PySem.W.Frag) (C:Addr) (f:Str):Prop:=PySem.W.findIn K (.ref C) f=some none
theorem NoAttr.taker {K:PySem.W.Frag} {C:Addr} {f:Str} (n:NoAttr K C f):PySem.W.takerIn K C f=some none:=by
  unfold PySem.W.takerIn
  rw [show PySem.W.findIn K (.ref C) f=some none from n]
  rfl
structure Meth (K:PySem.W.Frag) (C:Addr) (m:Str) (f:Addr):Prop where
  at_:PySem.W.findIn K (.ref C) m=some (some (.ref f))
  fn:PySem.W.isFn K (.ref f)=true
  kp:PySem.W.keepIn K (.ref f)=true
section
variable {X:Cx} {pins:List (Addr×Obj)} {σ:St} {H:Hp} {s:Shared} {a C dx:Addr} {fs:List (Str×V)} {f:Str} {v:V} {A:Around} {E:Value→Shared→Prop}
theorem getattr_ok {b:Bool} {Q:Value→Shared→Prop} (I:Inv X pins σ H s) (e:H a=some (.ins C dx fs)) (c:Cls X.K C) (n:NoAttr X.K C f) (l:fs.lookup f=some v)
    (h:∀ u s',Inv X pins σ H s'→RelV v u→Q u s'):wpAny (model X.prog X.w) A (getAttr (.ref a) f b) Q E s:=by
  obtain ⟨mA,O,r,_,_,_⟩:=ins_get I.hok e
  obtain ⟨u,hu,ru⟩:=RelO.some_of (v:=v) (o:=mA f) (by rw [← l];exact r f)
  exact get_map I.kIn O (c.get f) c.hd n hu (handed_of ru) (h u _ (I.tok _) ru)
theorem getmeth_ok {m:Str} {g:Addr} {pl:Sem Bool} {Q:Value×List Value→Shared→Prop} (I:Inv X pins σ H s) (e:H a=some (.ins C dx fs)) (c:Cls X.K C) (k:Meth X.K C m g) (l:fs.lookup m=none)
    (h:Q (.ref g,[.ref a]) s):wpAny (model X.prog X.w) A (getMethod (.ref a) m pl) Q E s:=by
  obtain ⟨mA,O,r,_,_,_⟩:=ins_get I.hok e
  have hn:mA m=none:=RelO.none_of (by rw [← l];exact r m)
  exact get_meth I.kIn O (c.get m) k.at_ k.fn hn h
theorem setattr_ok {y:V} {u:Value} {Q:Unit→Shared→Prop} (I:Inv X pins σ H s) (e:H a=some (.ins C dx fs)) (c:Cls X.K C) (n:NoAttr X.K C f) (hl:fs.length<1000) (ry:RelV y u)
    (h:∀ s',Inv X pins σ (upd H a (.ins C dx (putF f y fs))) s'→Q () s'):wpAny (model X.prog X.w) A (setAttr (.ref a) f u) Q E s:=by
  obtain ⟨mA,O,r,wi,_,ho⟩:=ins_get I.hok e
  have hz:(fs.map (·.1)).length≤sizeLine:=by rw [List.length_map,sizeLine_eq];omega
  refine set_map I.kIn O c.sa c.po n.taker c.hd wi hz fun h' O' sb=>h _ ?_
  have hd:∃ o,h'.get? dx=some o:=let ⟨o,_,_,e',_⟩:=O'.ns;⟨o,e'⟩
  refine I.write (x:=a) (e:=dx) (by rw [e];exact True.intro) (.inr ho) (fun b q hb z=>(sb.2 b hb).trans z) hd ?_
  refine ⟨by rw [upd_ne O.ne];exact ho,?_,O.ne,O'.obj,_,O'.ns,fun g=>?_,fun g hg=>?_⟩
  · have:=length_putF f y fs;omega
  · show RelO ((putF f y fs).lookup g) (if g=f then some u else mA g)
    rw [lookup_putF]
    by_cases q:g=f
    · rw [if_pos q,if_pos q];exact ry
    · rw [if_neg q,if_neg q];exact r g
  · by_cases q:g=f
    · rw [q];exact (keys_putF f y fs).1
    · refine (keys_putF f y fs).2 g (wi g fun z=>hg ?_)
      show (if g=f then some u else mA g)=none
      rw [if_neg q];exact z
theorem Inv.made (I:Inv X pins σ H s):Inv X pins σ (upd (upd H s.heap.objs.size (.own (s.heap.objs.size+1))) (s.heap.objs.size+1) (.ins C s.heap.objs.size []))
    {s with heap:=(s.heap.push PySem.W.emptyDict).push (PySem.W.instObj C s.heap.objs.size)}:=by
  have e1:(s.heap.push PySem.W.emptyDict).get? s.heap.objs.size=some PySem.W.emptyDict:=Heap.get?_push_size s.heap rfl
  have e2:((s.heap.push PySem.W.emptyDict).push (PySem.W.instObj C s.heap.objs.size)).get? (s.heap.objs.size+1)=some (PySem.W.instObj C s.heap.objs.size):=by
    have:=Heap.get?_push_size (s.heap.push PySem.W.emptyDict) (o:=PySem.W.instObj C s.heap.objs.size) rfl
    rwa [Heap.size_push] at this
  have e3:(s.heap.push PySem.W.emptyDict).Ns s.heap.objs.size (fun _=>none):=⟨PySem.W.emptyDict,#[],_,e1,rfl,(fun e he=>absurd he (by simp)),fun _=>rfl⟩
  have I1:=I.laid (a:=s.heap.objs.size) (o:=.own (s.heap.objs.size+1)) (h':=s.heap.push PySem.W.emptyDict) (t':=s.toks) (fun b u q=>Heap.get?_push_of_some _ q) (Nat.le_refl _) ⟨_,e1⟩
  refine I1.laid (a:=s.heap.objs.size+1) (o:=.ins C s.heap.objs.size []) (t':=s.toks) (fun b u q=>Heap.get?_push_of_some _ q) (Nat.le_of_eq (Heap.size_push _ _)) ?_
  have ne:s.heap.objs.size≠s.heap.objs.size+1:=Nat.ne_of_lt (Nat.lt_succ_self _)
  refine ⟨by rw [upd_ne ne,upd_same],Nat.zero_le _,ne,e2,fun _=>none,(Heap.Ns1.of_empty e3).at fun o q=>Heap.get?_push_of_some _ q,fun _=>True.intro,fun y hy=>absurd rfl hy⟩
theorem attr_of {prog:Program} {w:World} {env:Env} {e:Expr} {f:Str} {pos:Pos} {s:Shared} {Q:Value→Shared→Prop} (hb:attributeBase e f env (eval e env)=eval e env)
    (h:wpAny (model prog w) A (eval e env) (fun o s₁=>wpAny (model prog w) A (getAttr o f true) Q E s₁) E s):wpAny (model prog w) A (eval (.Attribute e f pos) env) Q E s :=
  Attribute_any_ h (by rw [arm_eval_Attribute,hb])
end
noncomputable def tFld (K:PySem.W.Frag) (ta:TE) (f:Str):TE:=fun σ H Q=>ta σ H fun x H1=>∃ a C dx fs v,x=.ref a∧H1 a=some (.ins C dx fs)∧Cls K C∧NoAttr K C f∧fs.lookup f=some v∧Q v H1
noncomputable def sFld (K:PySem.W.Frag) (ta tv:TE) (f:Str):TS:=fun D σ H=>tv σ H fun y H1=>ta σ H1 fun x H2=>∃ a C dx fs,x=.ref a∧H2 a=some (.ins C dx fs)∧Cls K C∧NoAttr K C f∧fs.length<1000∧
  D.nx σ (upd H2 a (.ins C dx (putF f y fs)))
section
variable {X:Cx} {o e value:Expr} {f:Str} {pos pos' tpos:Pos} {ta tv:TE}
theorem pe_fld (he:PE X e ta) (hb:attributeBase e f X.env (eval e X.env)=eval e X.env):PE X (.Attribute e f pos) (tFld X.K ta f):=by
  intro pins s σ H Q I h
  refine attr_of hb (thn (he pins s σ H _ I h) fun u s1 ⟨x,H1,I1,rx,a,C,dx,fs,v,ex,ea,c,n,l,q⟩=>?_)
  subst ex
  obtain rfl:u=Value.ref a:=rx
  exact getattr_ok I1 ea c n l fun u' s2 I2 ru=>⟨v,H1,I2,ru,q⟩
theorem ps_fld (ha:PE X o ta) (hv:PE X value tv) (hs:swapsWith value (some (.Attribute o f pos')) pos.line X.env=pure false):PS X (.Assign [.Attribute o f pos'] value pos) (sFld X.K ta tv f):=by
  intro pins s σ H D I h
  refine plainObj_wpAny_Assign_Attribute (thn (hv pins s σ H _ I h) fun u s1 ⟨y,H1,I1,ry,q⟩=>thn (ha pins s1 σ H1 _ I1 q) fun ov s2 ⟨x,H2,I2,rx,a,C,dx,fs,ex,ea,c,n,l,q2⟩=>?_) hs
  subst ex
  obtain rfl:ov=Value.ref a:=rx
  exact setattr_ok I2 ea c n l ry fun s3 I3=>⟨σ,_,I3,q2⟩
theorem methcall_of {pl:Sem Bool} {m:Str} {apos:Pos} {args:List Expr} {pins:List (Addr×Obj)} {s:Shared} {σ:St} {H:Hp} {Q:Value→Shared→Prop} {te:TE} (he:PE X e te) (I:Inv X pins σ H s)
    (h:te σ H fun x H1=>∃ a C dx fs g,x=.ref a∧H1 a=some (.ins C dx fs)∧Cls X.K C∧Meth X.K C m g∧fs.lookup m=none∧
      ∀ s1,Inv X pins σ H1 s1→wpAny (model X.prog X.w) X.A (callWith pos (.ref g) [.ref a] (backTo pos (starEach args X.env)) (backToKw pos (keywordEach [] X.env))) Q X.xe s1)
    (ht:eval (.Call (.Attribute e m apos) args [] pos) X.env=(do
      let ov ← eval e X.env
      standAt apos.atName
      let (f,first) ← holding [ov] (getMethod ov m pl)
      callWith pos f first (backTo pos (starEach args X.env)) (backToKw pos (keywordEach [] X.env)))) :
    wpAny (model X.prog X.w) X.A (eval (.Call (.Attribute e m apos) args [] pos) X.env) Q X.xe s:=by
  refine PySem.W.methodCall_KW (pl:=pl) (thn (he pins s σ H _ I h) fun u s1 ⟨x,H1,I1,rx,a,C,dx,fs,g,ex,ea,c,k,l,q⟩=>?_) ht
  subst ex
  obtain rfl:u=Value.ref a:=rx
  exact getmeth_ok I1 ea c k l (q s1 I1)
end
section
variable {X:Cx} {pins:List (Addr×Obj)} {σ:St} {H:Hp} {s:Shared} {A:Around} {E:Value→Shared→Prop} {Q:Value→Shared→Prop} {c:Value} {b:Bool}
inductive TyOf (K:PySem.W.Frag) (H:Hp):V→Value→Prop where
  | non:TyOf K H .non (.type "NoneType")
  | bl (x:Bool):TyOf K H (.bl x) (.type "bool")
  | int (i:Int):TyOf K H (.int i) (.type "int")
  | str (x:Str):TyOf K H (.str x) (.type "str")
  | flt (x:UInt64):TyOf K H (.flt x) (.type "float")
  | lst {a:Addr} {xs:List V} (e:H a=some (.lst xs)):TyOf K H (.ref a) (.type "list")
  | frz {a:Addr} {o:Obj} {xs:List V} (e:H a=some (.frz o (.lst xs))):TyOf K H (.ref a) (.type "list")
  | tup {a:Addr} {xs:List V} (e:H a=some (.tup xs)):TyOf K H (.ref a) (.type "tuple")
  | dK {a:Addr} {kvs:List (Key×V)} (e:H a=some (.dK kvs)):TyOf K H (.ref a) (.type "dict")
  | dT {a:Addr} {kvs:List (List Key×V)} (e:H a=some (.dT kvs)):TyOf K H (.ref a) (.type "dict")
  | ins {a C dx:Addr} {fs:List (Str×V)} (e:H a=some (.ins C dx fs)) (cl:Cls K C) (ha:PySem.W.findIn K (.ref C) "__class__"=some (some (.builtin "object.__class__")))
      (hn:PySem.W.specialIn K (.builtin "object.__class__") "__get__"=some (some (.builtin "getset_descriptor.__get__"))) (htk:PySem.W.takesIn K (.builtin "object.__class__")=some true)
      (hm:PySem.W.mroIn K C (.type "object")=some true):TyOf K H (.ref a) (.ref C)
theorem isinst_ok {x:V} {u t:Value} (I:Inv X pins σ H s) (rx:RelV x u) (ty:TyOf X.K H x t) (e:PySem.W.kitOne X.K t c=some b) (h:∀ tk,Q (.bool b) {s with toks:=tk}) :
    wpAny (model X.prog X.w) A (call (.builtin "isinstance") [u,c]) Q E s:=by
  cases ty with
  | non=>cases (show u=Value.none from rx);exact PySem.W.kia_one PySem.W.kitx_none I.kIn True.intro e (fun z=>nomatch z) h
  | bl y=>cases (show u=Value.bool y from rx);exact PySem.W.kia_one PySem.W.kitx_bool I.kIn True.intro e (fun z=>nomatch z) h
  | int i=>obtain ⟨t,q⟩:=(show ∃ t,u=Value.int i t from rx);cases q;exact PySem.W.kia_one PySem.W.kitx_int I.kIn True.intro e (fun z=>nomatch z) h
  | str y=>obtain ⟨t,q⟩:=(show ∃ t,u=Value.str y t from rx);cases q;exact PySem.W.kia_one PySem.W.kitx_str I.kIn True.intro e (fun z=>nomatch z) h
  | flt y=>obtain ⟨t,q⟩:=(show ∃ t,u=Value.float y t from rx);cases q;exact PySem.W.kia_one PySem.W.kitx_float I.kIn True.intro e (fun z=>nomatch z) h
  | @lst a xs ea =>
    cases (show u=Value.ref a from rx)
    obtain ⟨_,_,n,_,h1⟩:=(show ObjOk X.prog X.w H s.heap a (.lst xs) from I.hok a _ ea)
    exact PySem.W.kia_one PySem.W.kitx_list I.kIn ⟨_,h1,rfl⟩ e (fun z=>nomatch z) h
  | @frz a ob xs ea =>
    cases (show u=Value.ref a from rx)
    obtain ⟨_,_,_,n,_,h1⟩:=(show ObjOk X.prog X.w H s.heap a (.frz ob (.lst xs)) from I.hok a _ ea)
    exact PySem.W.kia_one PySem.W.kitx_list I.kIn ⟨_,h1,rfl⟩ e (fun z=>nomatch z) h
  | @tup a xs ea =>
    cases (show u=Value.ref a from rx)
    obtain ⟨_,_,_,p⟩:=(show ObjOk X.prog X.w H s.heap a (.tup xs) from I.hok a _ ea)
    obtain ⟨o,h1,h2,_⟩:=p
    exact PySem.W.kia_one PySem.W.kitx_tuple I.kIn ⟨o,h1,h2⟩ e (fun z=>nomatch z) h
  | @dK a kvs ea =>
    cases (show u=Value.ref a from rx)
    obtain ⟨_,_,vs,_,p⟩:=(show ObjOk X.prog X.w H s.heap a (.dK kvs) from I.hok a _ ea)
    obtain ⟨o,es,ep,h1,h2,_⟩:=p
    exact PySem.W.kia_one PySem.W.kitx_dict I.kIn ⟨o,h1,h2.1⟩ e (fun z=>nomatch z) h
  | @dT a kvs ea =>
    cases (show u=Value.ref a from rx)
    obtain ⟨_,_,xs,_,o,es,ep,h1,h2,_⟩:=(show ObjOk X.prog X.w H s.heap a (.dT kvs) from I.hok a _ ea)
    exact PySem.W.kia_one PySem.W.kitx_dict I.kIn ⟨o,h1,h2.1⟩ e (fun z=>nomatch z) h
  | @ins a C dx fs ea cl ha hn htk hm =>
    cases (show u=Value.ref a from rx)
    obtain ⟨mA,O,_⟩:=ins_get I.hok ea
    obtain ⟨od,J,_⟩:=O.look
    exact PySem.W.kia_one (PySem.W.kitx_own (cl.get _) cl.hd ha hn htk hm) I.kIn J e (fun z=>nomatch z) h
end
end L2
namespace L2
open PySem PySem.Spec PyProof.Rows
structure Room (k:Nat) (A:Around):Prop where
  hd:A.handled=none
  dp:A.depth+3*k+5<recursionLimit
  un:A.units+16*k+200<cLine
  gd:A.guards=some []
theorem Room.mono {j k:Nat} {A:Around} (r:Room k A) (h:j≤k):Room j A:=⟨r.hd,by have:=r.dp;omega,by have:=r.un;omega,r.gd⟩
theorem Room.deeper {k:Nat} {A:Around} (r:Room (k+1) A) (env:Env):Room k (A.deeper env) :=
  ⟨r.hd,by have:=r.dp;show A.depth+1+3*k+5<_;omega,by have:=r.un;show A.units+3+16*k+200<_;omega,r.gd⟩
theorem make_depth {A:Around} {C:Addr} {us:List Value} {kw:List (Str×Value)}:(A.under (.builtin "type.__call__" ⟨.ref C::us,kw⟩)).depth=A.depth+1:=by
  first | rfl | simp [Around.under,Code.weight,Code.isCreation,Code.isGuard,Code.isCaller,Code.frames,Code.isFrame,guardIds]
theorem make_units {A:Around} {C:Addr} {us:List Value} {kw:List (Str×Value)}:(A.under (.builtin "type.__call__" ⟨.ref C::us,kw⟩)).units=A.units+1:=by
  first | rfl | simp [Around.under,Code.cUnits,Code.frames,Code.isFrame]
theorem Room.make {k:Nat} {A:Around} (r:Room (k+1) A) (C:Addr) (us:List Value) (kw:List (Str×Value)):Room k (A.under (.builtin "type.__call__" ⟨.ref C::us,kw⟩)) :=
  ⟨r.hd,by have:=r.dp;rw [make_depth];omega,by have:=r.un;rw [make_units];omega,by have:=r.gd;first | exact this | (simp [Around.under,Code.isGuard,guardIds];exact this)⟩
theorem Room.depth {k:Nat} {A:Around} (r:Room k A):A.depth<recursionLimit:=by have:=r.dp;omega
theorem Room.units {k:Nat} {A:Around} (r:Room k A):A.units+64<cLine:=by have:=r.un;omega
noncomputable def tNil:TA:=fun _ H Q=>Q [] H
noncomputable def tCons (ta:TE) (tr:TA):TA:=fun σ H Q=>ta σ H fun x H1=>tr σ H1 fun xs H2=>Q (x::xs) H2
section
variable {X:Cx} {e:Expr} {es:List Expr} {te:TE} {t:TA} {pos:Pos}
theorem pa_nil:PA X [] tNil:=fun _ _ _ _ H Q I h=>Calls.spliced_nil ⟨[],H,I,.nil,h⟩
theorem pa_cons (ha:PE X e te) (hr:PA X es t) (hs:starEach (e::es) X.env=(false,eval e X.env)::starEach es X.env:=by rfl):PA X (e::es) (tCons te t):=by
  intro pos pins s σ H Q I h
  rw [hs]
  show wpAny _ _ (spliced ((false,eval e X.env)::backTo pos (starEach es X.env))) _ _ s
  refine Calls.spliced_cons (thn (ha pins s σ H _ I h) fun u s1 ⟨x,H1,I1,r1,q1⟩=>?_)
  exact thn (hr pos pins s1 σ H1 _ I1 q1) fun us s2 ⟨xs,H2,I2,r2,q2⟩=>⟨x::xs,H2,I2,.cons r1 r2,q2⟩
noncomputable def tTup (t:TA):TE:=fun σ H Q=>t σ H fun xs H1=>xs.length≤sizeLine∧∀ p,H1 p=none→Q (.ref p) (upd H1 p (.tup xs))
noncomputable def tLst (t:TA):TE:=fun σ H Q=>t σ H fun xs H1=>xs.length≤sizeLine∧∀ p,H1 p=none→Q (.ref p) (upd H1 p (.lst xs))
theorem pe_tup {x1} (h:PA X es t):PE X (.Tuple es x1 pos) (tTup t):=by
  intro pins s σ H Q I hq
  refine wpAny_Tuple_spliced (thn (h pos pins s σ H _ I hq) fun us s1 ⟨xs,H1,I1,r,z,q⟩=>⟨by rw [← r.length];exact z,?_⟩)
  have hf:H1 s1.heap.objs.size=none:=I1.hok.fresh (Nat.le_refl _)
  refine ⟨.ref s1.heap.objs.size,upd H1 s1.heap.objs.size (.tup xs),I1.laid (t':=s1.toks) (fun b u e=>Heap.get?_push_of_some _ e) (Nat.le_refl _) ?_,rfl,q _ hf⟩
  exact ⟨z,us,r,⟨_,Heap.get?_push_size _ rfl,rfl,_,rfl⟩⟩
theorem pe_lst (h:PA X es t):PE X (.List es pos) (tLst t):=by
  intro pins s σ H Q I hq
  refine wpAny_List_spliced (thn (h pos pins s σ H _ I hq) fun us s1 ⟨xs,H1,I1,r,z,q⟩=>⟨by rw [← r.length];exact z,?_⟩)
  have hf:H1 s1.heap.objs.size=none:=I1.hok.fresh (Nat.le_refl _)
  refine ⟨.ref s1.heap.objs.size,upd H1 s1.heap.objs.size (.lst xs),I1.laid (t':=s1.toks) (fun b u e=>Heap.get?_push_of_some _ e) (Nat.le_refl _) ?_,rfl,q _ hf⟩
  exact ⟨z,us,0,r,Heap.get?_push_size _ rfl⟩
end
noncomputable abbrev Sp:=List V→Hp→VK→XK→Prop
noncomputable abbrev CXT:=List Env→Hp→Shared→XK→Value→Shared→Prop
structure Env0 (P:Program) (w:World) (K:PySem.W.Frag) (mg:Str→Option Value) (base:Heap) (A:Around) (outer:List Env) (s:Shared) (H:Hp):Prop where
  frames:A.frames=some outer
  mod:Mod K mg base
  bs:∀ b o,base.get? b=some o→s.heap.get? b=some o∧H b=none
  bsz:base.objs.size≤s.heap.objs.size
  funs:s.heap.FunFrames base outer
  frf:∀ b∈frs outer,H b=none
  hok:HOk P w H s.heap
  bare:AllBare s.gens
noncomputable def CE (outer:List Env) (P:Program) (w:World) (H:Hp) (s:Shared) (Q:VK) (u:Value) (s':Shared):Prop :=
  ∃ v H',s'.os=s.os∧AllBare s'.gens∧Un (frs outer) [] H H' s.heap s'.heap∧HOk P w H' s'.heap∧RelV v u∧Q v H'
noncomputable def CR (CX:CXT) (outer:List Env) (P:Program) (w:World) (H:Hp) (s:Shared) (Q:VK) (E:XK) (r:Result) (s':Shared):Prop :=
  match r with
  | .ok (.ret u)=>CE outer P w H s Q u s'
  | .ok _=>False
  | .error e=>CX outer H s E e s'
structure FnOk (P:Program) (w:World) (K:PySem.W.Frag) (mg:Str→Option Value) (base:Heap) (CX:CXT) (k:Nat) (f:Addr) (fd:FuncData) (ps:List Str) (sp:Sp):Prop where
  len:∀ vs H Q E,sp vs H Q E→vs.length=ps.length
  run:∀ (A:Around) (outer:List Env) (s:Shared) (H:Hp) (args:Args) (us:List Value) (vs:List V) (Q:VK) (E:XK),Room k A→Env0 P w K mg base A outer s H→BindsTo s fd args (ps.zip us)→Vals vs us→sp vs H Q E→
    codeAny (model P w) A (.call (.ref f) args) (CR CX outer P w H s Q E) s
theorem Env0.make {P:Program} {w:World} {K:PySem.W.Frag} {mg:Str→Option Value} {base:Heap} {A:Around} {outer:List Env} {s:Shared} {H:Hp} (e:Env0 P w K mg base A outer s H) (C:Addr) (us:List Value) (kw:List (Str×Value)) :
    Env0 P w K mg base (A.under (.builtin "type.__call__" ⟨.ref C::us,kw⟩)) outer s H:=⟨by first | exact e.frames | (simpa [Around.under,Code.envs,Code.isFrame,pushEnvs] using e.frames),e.mod,e.bs,e.bsz,e.funs,e.frf,e.hok,e.bare⟩
section
variable {X:Cx} {pins:List (Addr×Obj)} {σ:St} {H:Hp} {s s':Shared}
theorem Inv.env0 (I:Inv X pins σ H s):Env0 X.prog X.w X.K X.mg X.base X.A X.stack s H :=
  ⟨I.ok.frames,I.ok.mod,I.bs,Nat.le_trans I.ok.bsz I.sz,I.stack,I.stkFree,I.hok,I.bare⟩
theorem Inv.after {Q:VK} {u:Value} (I:Inv X pins σ H s) (h:CE X.stack X.prog X.w H s Q u s'):EP X pins σ Q u s':=by
  obtain ⟨v,H',os,bare,un,hok,r,q⟩:=h
  obtain ⟨hh,g,d,t,os'⟩:=s'
  obtain rfl:os'=s.os:=os
  exact ⟨v,H',I.call (h':=hh) (g':=g) (d':=d) (t':=t) (ch:=[]) un hok bare (fun b z=>absurd z (by simp)),r,q⟩
end
noncomputable def tCall (sp:Sp) (dvs:List V) (E:XK) (t:TA):TE:=fun σ H Q=>t σ H fun vs H1=>sp (vs++dvs) H1 Q E
noncomputable def tMeth (C:Addr) (m:Str) (sp:Sp) (dvs:List V) (E:XK) (ta:TE) (t:TA):TE:=fun σ H Q=>ta σ H fun x H1=>∃ a dx fs,x=.ref a∧H1 a=some (.ins C dx fs)∧fs.lookup m=none∧
  t σ H1 fun vs H2=>sp (x::(vs++dvs)) H2 Q E
noncomputable def tMake (C:Addr) (sp:Sp) (dvs:List V) (E:XK) (t:TA):TE:=fun σ H Q=>t σ H fun vs H1=>∀ x dx,H1 x=none→H1 dx=none→dx≠x→
  sp (.ref x::(vs++dvs)) (upd (upd H1 dx (.own x)) x (.ins C dx [])) (fun v H2=>v=.non∧Q (.ref x) H2) E
noncomputable def Binds (K:PySem.W.Frag) (fd:FuncData) (ps:List Str) (ds:List Value):Prop :=
  ∀ (s:Shared) (us:List Value),K.In s.heap→(us++ds).length=ps.length→BindsTo s fd ⟨us,[]⟩ (ps.zip (us++ds))
theorem Binds.all {K:PySem.W.Frag} {fd:FuncData} {ps:List Str} (h:∀ us:List Value,us.length=ps.length→bindArgs fd ⟨us,[]⟩=pure (ps.zip us)):Binds K fd ps []:=fun s us _ hl=>by
  rw [List.append_nil] at hl⊢
  exact .of_eq (h us hl)
noncomputable def Passes (CX:CXT) (X:Cx) (E:XK):Prop:=∀ (pins:List (Addr×Obj)) (σ:St) (H:Hp) (s:Shared) (e:Value) (s':Shared),Inv X pins σ H s→CX X.stack H s E e s'→X.xe e s'
section
variable {X:Cx} {CX:CXT} {k:Nat} {f C:Addr} {fd:FuncData} {ps:List Str} {sp:Sp} {dvs:List V} {ds:List Value} {E:XK} {x m:Str} {p pos apos:Pos} {e o:Expr} {es:List Expr} {ta:TE} {t:TA}
theorem run_fn {pins:List (Addr×Obj)} {σ:St} {H:Hp} {s:Shared} {Q:VK} {us:List Value} {vs:List V} (F:FnOk X.prog X.w X.K X.mg X.base CX k f fd ps sp) (hr:Room k X.A) (hb:Binds X.K fd ps ds) (hd:Vals dvs ds) (hx:Passes CX X E)
    (I:Inv X pins σ H s) (r:Vals vs us) (h:sp (vs++dvs) H Q E):wpAny (model X.prog X.w) X.A (call (.ref f) us) (EP X pins σ Q) X.xe s:=by
  have r2:Vals (vs++dvs) (us++ds):=r.append hd
  have hl:(us++ds).length=ps.length:=by rw [← r2.length];exact F.len _ _ _ _ h
  refine wpAny_call (codeAny_mono (F.run X.A X.stack s H ⟨us,[]⟩ (us++ds) (vs++dvs) Q E hr I.env0 (hb s us I.kIn hl) r2 h) fun r s' hq=>?_)
  cases r with
  | error e=>exact hx pins σ H s e s' I hq
  | ok fl =>
    cases fl with
    | ret u=>exact I.after hq
    | next=>exact False.elim hq
    | brk=>exact False.elim hq
    | cont=>exact False.elim hq
theorem pe_call (F:FnOk X.prog X.w X.K X.mg X.base CX k f fd ps sp) (hr:Room k X.A) (hg:Gl X x) (hm:X.mg x=some (.ref f)) (hk:PySem.W.keepIn X.K (.ref f)=true) (hb:Binds X.K fd ps ds) (hd:Vals dvs ds) (hx:Passes CX X E)
    (ha:PA X (e::es) t) (hdb:(x==("__debug__":Str))=false:=by decide) (he:starEach (e::es) X.env=(false,eval e X.env)::starEach es X.env:=by rfl) (hpl:(backTo pos (starEach es X.env)).any (·.1)=false:=by rfl) :
    PE X (.Call (.Name x p) (e::es) [] pos) (tCall sp dvs E t):=by
  intro pins s σ H Q I h
  refine wpAny_Call_Name_kw (ld_glob I hg hm ?_ hdb)
  refine PySem.W.callWith_K (h₀:=X.base) I.ok.mod.kin hk (thn (ha pos pins s σ H _ I h) fun us s1 ⟨vs,H1,I1,r,q⟩=>⟨I1.kIn,?_⟩) he hpl
  exact run_fn F hr hb hd hx I1 r q
theorem pe_meth {pl:Sem Bool} (he:PE X o ta) (c:Cls X.K C) (hm:Meth X.K C m f) (F:FnOk X.prog X.w X.K X.mg X.base CX k f fd ps sp) (hr:Room k X.A) (hb:Binds X.K fd ps ds) (hd:Vals dvs ds) (hx:Passes CX X E) (ha:PA X (e::es) t)
    (hst:starEach (e::es) X.env=(false,eval e X.env)::starEach es X.env:=by rfl) (hpl:(backTo pos (starEach es X.env)).any (·.1)=false:=by rfl)
    (ht:eval (.Call (.Attribute o m apos) (e::es) [] pos) X.env=(do
      let ov ← eval o X.env
      standAt apos.atName
      let (f,first) ← holding [ov] (getMethod ov m pl)
      callWith pos f first (backTo pos (starEach (e::es) X.env)) (backToKw pos (keywordEach [] X.env))):=by rfl) :
    PE X (.Call (.Attribute o m apos) (e::es) [] pos) (tMeth C m sp dvs E ta t):=by
  intro pins s σ H Q I h
  refine PySem.W.methodCall_KW (pl:=pl) (thn (he pins s σ H _ I h) fun u s1 ⟨x,H1,I1,rx,a,dx,fs,ex,ea,l,q⟩=>?_) ht
  subst ex
  obtain rfl:u=Value.ref a:=rx
  refine getmeth_ok I1 ea c hm l ?_
  refine PySem.W.callWith_K (first:=[.ref a]) (h₀:=X.base) I.ok.mod.kin hm.kp (thn (ha pos pins s1 σ H1 _ I1 q) fun us s2 ⟨vs,H2,I2,r,q2⟩=>⟨I2.kIn,?_⟩) hst hpl
  exact run_fn (us:=.ref a::us) (vs:=.ref a::vs) F hr hb hd hx I2 (.cons rfl r) q2
theorem pe_meth0 {pl:Sem Bool} (he:PE X o ta) (c:Cls X.K C) (hm:Meth X.K C m f) (F:FnOk X.prog X.w X.K X.mg X.base CX k f fd ps sp) (hr:Room k X.A) (hb:Binds X.K fd ps ds) (hd:Vals dvs ds) (hx:Passes CX X E)
    (ht:eval (.Call (.Attribute o m apos) [] [] pos) X.env=(do
      let ov ← eval o X.env
      standAt apos.atName
      let (f,first) ← holding [ov] (getMethod ov m pl)
      callWith pos f first (backTo pos (starEach [] X.env)) (backToKw pos (keywordEach [] X.env))):=by rfl) :
    PE X (.Call (.Attribute o m apos) [] [] pos) (tMeth C m sp dvs E ta tNil):=by
  intro pins s σ H Q I h
  refine PySem.W.methodCall_KW (pl:=pl) (thn (he pins s σ H _ I h) fun u s1 ⟨x,H1,I1,rx,a,dx,fs,ex,ea,l,q⟩=>?_) ht
  subst ex
  obtain rfl:u=Value.ref a:=rx
  refine getmeth_ok I1 ea c hm l ?_
  exact PySem.W.callWith_K0 (first:=[.ref a]) I1.kIn hm.kp (run_fn (us:=[.ref a]) (vs:=[.ref a]) F hr hb hd hx I1 (.cons rfl .nil) q)
structure Mk (K:PySem.W.Frag) (C f:Addr):Prop where
  makes:PySem.W.makesIn K C=true
  init:PySem.W.findIn K (.ref C) "__init__"=some (some (.ref f))
  fn:PySem.W.isFn K (.ref f)=true
  kp:PySem.W.keepIn K (.ref C)=true
theorem run_make {pins:List (Addr×Obj)} {σ:St} {H:Hp} {s:Shared} {Q:VK} {us:List Value} {vs:List V} (M:Mk X.K C f) (F:FnOk X.prog X.w X.K X.mg X.base CX k f fd ps sp) (hr:Room (k+1) X.A) (hb:Binds X.K fd ps ds) (hd:Vals dvs ds)
    (hx:Passes CX X E) (I:Inv X pins σ H s) (r:Vals vs us)
    (h:∀ x dx,H x=none→H dx=none→dx≠x→sp (.ref x::(vs++dvs)) (upd (upd H dx (.own x)) x (.ins C dx [])) (fun v H2=>v=.non∧Q (.ref x) H2) E) :
    wpAny (model X.prog X.w) X.A (call (.ref C) us) (EP X pins σ Q) X.xe s:=by
  have hq:=h (s.heap.objs.size+1) s.heap.objs.size (I.hok.fresh (Nat.le_succ _)) (I.hok.fresh (Nat.le_refl _)) (Nat.ne_of_lt (Nat.lt_succ_self _))
  have I2:=Inv.made (C:=C) I
  have r2:Vals (V.ref (s.heap.objs.size+1)::(vs++dvs)) (Value.ref (s.heap.objs.size+1)::(us++ds)):=.cons rfl (r.append hd)
  have hl:(Value.ref (s.heap.objs.size+1)::us++ds).length=ps.length:=by
    have e:=r2.length
    rw [F.len _ _ _ _ hq] at e
    exact e.symm
  refine wpAny_call (make_map (f:=f) I.kIn M.makes M.init (beq_iff_eq.mp M.fn) (codeAny_mono (F.run _ X.stack _ _ ⟨Value.ref (s.heap.objs.size+1)::us,[]⟩ (Value.ref (s.heap.objs.size+1)::(us++ds)) _ _ E (hr.make C us [])
    (I2.env0.make C us []) (hb _ (Value.ref (s.heap.objs.size+1)::us) I2.kIn hl) r2 hq) fun r s' hq'=>?_))
  cases r with
  | error e=>exact hx pins σ _ _ e s' I2 hq'
  | ok fl =>
    cases fl with
    | ret u =>
      obtain ⟨v,H',I3,rv,ev,q3⟩:=I2.after hq'
      subst ev
      exact ⟨rv,⟨V.ref (s.heap.objs.size+1),H',I3,rfl,q3⟩⟩
    | next=>exact False.elim hq'
    | brk=>exact False.elim hq'
    | cont=>exact False.elim hq'
theorem pe_make (M:Mk X.K C f) (F:FnOk X.prog X.w X.K X.mg X.base CX k f fd ps sp) (hr:Room (k+1) X.A) (hg:Gl X x) (hm:X.mg x=some (.ref C)) (hb:Binds X.K fd ps ds) (hd:Vals dvs ds) (hx:Passes CX X E)
    (ha:PA X (e::es) t) (hdb:(x==("__debug__":Str))=false:=by decide) (he:starEach (e::es) X.env=(false,eval e X.env)::starEach es X.env:=by rfl) (hpl:(backTo pos (starEach es X.env)).any (·.1)=false:=by rfl) :
    PE X (.Call (.Name x p) (e::es) [] pos) (tMake C sp dvs E t):=by
  intro pins s σ H Q I h
  refine wpAny_Call_Name_kw (ld_glob I hg hm ?_ hdb)
  refine PySem.W.callWith_K (h₀:=X.base) I.ok.mod.kin M.kp (thn (ha pos pins s σ H _ I h) fun us s1 ⟨vs,H1,I1,r,q⟩=>⟨I1.kIn,?_⟩) he hpl
  exact run_make M F hr hb hd hx I1 r q
end
section
variable {X:Cx} {CX:CXT} {k:Nat} {f C:Addr} {fd:FuncData} {ps ks:List Str} {sp:Sp} {E:XK} {x m:Str} {p pos apos kpos:Pos} {e o:Expr} {es:List Expr} {kws:List Keyword} {te ta:TE} {t tk:TA} {nm:Option Str}
variable {g:List Value→List Value→List Value} {gV:List V→List V→List V}
end
structure FnScope (N P:List Str) (sc:Scope):Prop where
  kind:sc.kind=.function
  co:sc.isCoroutine=false
  gen:sc.isGenerator=false
  nd:N.Nodup
  pre:N.take P.length=P
  par:∀ x∈P,sc.names.lookup x=some .local∨sc.names.lookup x=some .cell
  nofree:∀ y∈sc.names,y.2≠.free
theorem bindL_out {kindOf:Str→Option NameKind} {x:Str}:∀ {binds:List (Str×Value)} {m:Str→Option Value},(∀ v,(x,v)∉binds)→bindL kindOf binds m x=m x
  | [],_,_=>rfl
  | (n,v)::r,m,h=>by
    unfold bindL
    rw [bindL_out fun w hw=>h w (List.mem_cons_of_mem _ hw)]
    split
    · have:x≠n:=by rintro rfl;exact h v List.mem_cons_self
      simp [this]
    · rfl
theorem bindC_out {kindOf:Str→Option NameKind} {x:Str}:∀ {binds:List (Str×Value)} {m:Str→Option Value},(∀ v,(x,v)∉binds)→bindC kindOf binds m x=m x
  | [],_,_=>rfl
  | (n,v)::r,m,h=>by
    unfold bindC
    rw [bindC_out fun w hw=>h w (List.mem_cons_of_mem _ hw)]
    split
    · rfl
    · have:x≠n:=by rintro rfl;exact h v List.mem_cons_self
      simp [this]
theorem bindL_get {kindOf:Str→Option NameKind} {x:Str} {v:Value}:∀ {P:List Str} {vs:List Value} {i:Nat} {m:Str→Option Value},P.Nodup→P[i]?=some x→vs[i]?=some v→kindOf x=some .local→
    bindL kindOf (P.zip vs) m x=some v
  | [],_,_,_,_,h,_,_=>by simp at h
  | _::_,[],_,_,_,_,h,_=>by simp at h
  | p::P,w::vs,0,m,nd,h1,h2,hk=>by
    simp at h1 h2;subst h1;subst h2
    show bindL kindOf ((p,w)::P.zip vs) m p=_
    unfold bindL
    rw [bindL_out fun v hv=>(List.nodup_cons.mp nd).1 (List.of_mem_zip hv).1,if_pos hk]
    simp
  | p::P,w::vs,i+1,m,nd,h1,h2,hk=>by
    show bindL kindOf ((p,w)::P.zip vs) m x=_
    unfold bindL
    exact bindL_get (i:=i) (List.nodup_cons.mp nd).2 (by simpa using h1) (by simpa using h2) hk
theorem bindC_get {kindOf:Str→Option NameKind} {x:Str} {v:Value}:∀ {P:List Str} {vs:List Value} {i:Nat} {m:Str→Option Value},P.Nodup→P[i]?=some x→vs[i]?=some v→kindOf x≠some .local→
    bindC kindOf (P.zip vs) m x=some v
  | [],_,_,_,_,h,_,_=>by simp at h
  | _::_,[],_,_,_,_,h,_=>by simp at h
  | p::P,w::vs,0,m,nd,h1,h2,hk=>by
    simp at h1 h2;subst h1;subst h2
    show bindC kindOf ((p,w)::P.zip vs) m p=_
    unfold bindC
    rw [bindC_out fun v hv=>(List.nodup_cons.mp nd).1 (List.of_mem_zip hv).1,if_neg hk]
    simp
  | p::P,w::vs,i+1,m,nd,h1,h2,hk=>by
    show bindC kindOf ((p,w)::P.zip vs) m x=_
    unfold bindC
    exact bindC_get (i:=i) (List.nodup_cons.mp nd).2 (by simpa using h1) (by simpa using h2) hk
noncomputable def start (N:List Str) (vs:List V):St:=vs.map some++List.replicate (N.length - vs.length) none
noncomputable def cxOf (CX:CXT) (P:Program) (w:World) (K:PySem.W.Frag) (mg:Str→Option Value) (base:Heap) (N:List Str) (qual:Str) (scope:Scope) (f:Addr) (cd:Value) (A:Around) (outer:List Env) (s:Shared) (H:Hp) (E:XK):Cx where
  prog:=P
  w:=w
  K:=K
  mg:=mg
  base:=base
  A:=A.deeper (envOfC qual scope s.heap.objs.size f cd)
  N:=N
  s₀:=s
  H₀:=H
  env:=envOfC qual scope s.heap.objs.size f cd
  outer:=outer
  stack:=envOfC qual scope s.heap.objs.size f cd::outer
  ex:=[]
  calm:=true
  fn:=fun _=>true
  pn:=[]
  xe:=fun e s'=>wpAny (model P w) (A.deeper (envOfC qual scope s.heap.objs.size f cd)) (leaving (envOfC qual scope s.heap.objs.size f cd) e) (fun _ s''=>CX outer H s E e s'') (fun e' s''=>CX outer H s E e' s'') s'
theorem cell_has {sc:Scope} {n:Nat} {x:Str} (h:sc.names.lookup x=some .cell):∃ c,(cellsFrom n sc.names []).lookup x=some c:=by
  have q:=PySem.W.cellsFrom_some sc.names n [] (.inl h)
  exact Option.isSome_iff_exists.mp q
theorem inv_start {CX:CXT} {P:Program} {w:World} {K:PySem.W.Frag} {mg:Str→Option Value} {base:Heap} {N ps:List Str} {qual:Str} {scope:Scope} {f:Addr} {cd:Value} {A:Around} {outer:List Env} {s s1:Shared} {H:Hp} {E:XK} {us:List Value} {vs:List V}
    (S:FnScope N ps scope) (hd:A.handled=none) (e0:Env0 P w K mg base A outer s H) (hl:vs.length=ps.length) (r:Vals vs us)
    (x:InCallC s s.heap.objs.size (bindL (envOfC qual scope s.heap.objs.size f cd).kindOf (ps.zip us) fun _=>none) (cellsFrom (s.heap.objs.size+1) scope.names []) (bindC (envOfC qual scope s.heap.objs.size f cd).kindOf (ps.zip us) fun _=>none) s1) :
    Inv (cxOf CX P w K mg base N qual scope f cd A outer s H E) [] (start N vs) H s1:=by
  have hpl:ps.length≤N.length:=by have:=congrArg List.length S.pre;rw [List.length_take] at this;omega
  obtain ⟨h1,tk,rfl,hk⟩:=x.done
  have noA:∀ b:Addr,b∉(cxOf CX P w K mg base N qual scope f cd A outer s H E).ex:=fun b z=>absurd (show b∈([]:List Addr) from z) (by simp)
  refine ⟨⟨e0.mod,S.kind,rfl,rfl,Nat.le_refl _,fun y z c h1 h2=>?_,fun y hy=>?_,fun y c _ h=>?_,fun _=>hd,Around.frames_deeper e0.frames,.inr ⟨rfl,rfl⟩,fun b z=>absurd z (noA b),e0.bs,e0.bsz,fun b _ _=>noA b,fun b z=>absurd z (noA b),e0.funs,e0.frf⟩,
    rfl,e0.bare,Un.kept hk,⟨_,x.toInCall.ns,fun i y v h1 h2 h3=>?_⟩,fun y c h=>⟨_,x.cell y c h⟩,e0.hok.fresh (Nat.le_refl _),fun y c h=>?_,fun p hp=>absurd (show p∈([]:List (Addr×Obj)) from hp) (by simp),e0.hok.kept hk,?_⟩
  · exact name_of_addr x.apart (PySem.mem_of_lookup h1) (PySem.mem_of_lookup h2)
  · have hy:scope.names.lookup y=some .cell∨scope.names.lookup y=some .free:=hy
    rcases hy with hy | hy
    · exact cell_has hy
    · exact absurd rfl (S.nofree _ (PySem.mem_of_lookup hy))
  · exact Nat.le_of_lt (x.above y c (PySem.mem_of_lookup h))
  · have hi:i<vs.length:=by
      unfold start at h2
      by_cases hi:i<vs.length
      · exact hi
      · rw [List.getElem?_append_right (by simpa using hi)] at h2
        rw [List.getElem?_replicate] at h2
        split at h2 <;> cases h2
    have ha:vs[i]?=some v:=by
      unfold start at h2
      rw [List.getElem?_append_left (by simpa using hi),List.getElem?_map] at h2
      cases e:vs[i]? with
      | none=>rw [e] at h2;cases h2
      | some a=>rw [e] at h2;cases h2;rfl
    obtain ⟨u,hu,rv⟩:=r.get ha
    have hp:ps[i]?=some y:=by
      rw [← S.pre,List.getElem?_take_of_lt (by omega)];exact h1
    have ndP:ps.Nodup:=by rw [← S.pre];exact S.nd.sublist (List.take_sublist _ _)
    refine ⟨u,rv,?_⟩
    rcases S.par y (List.mem_of_getElem? hp) with k | k
    · exact .inl ⟨k,bindL_get ndP hp hu k⟩
    · obtain ⟨c,e⟩:=cell_has (n:=s.heap.objs.size+1) k
      refine .inr ⟨.inl k,c,e,?_⟩
      have q:=x.cell y c e
      rw [bindC_get ndP hp hu (by show scope.names.lookup y≠_;rw [k];decide)] at q
      exact q
  · exact e0.hok.fresh (Nat.le_of_lt (x.above y c (PySem.mem_of_lookup h)))
  · unfold start
    show _=N.length
    rw [List.length_append,List.length_map,List.length_replicate]
    omega
theorem fn_of {CX:CXT} {P:Program} {w:World} {K:PySem.W.Frag} {mg:Str→Option Value} {base:Heap} {k:Nat} {f:Addr} {name qual:Str} {params:Arguments} {body:List Stmt} {scope:Scope} {dV kV doc pm cdv ct oc:Value} {an od:Option Addr}
    {osl:Array (Option Value)} {N ps:List Str} {sp:Sp} (lk:K.lookup f=some ⟨oc,od,.func (PySem.W.fnOf name qual params body scope dV kV doc pm an cdv ct),osl⟩) (hcd:PySem.W.codeIn K cdv qual=true) (S:FnScope N ps scope)
    (len:∀ vs H Q E,sp vs H Q E→vs.length=ps.length)
    (hbody:∀ (A:Around) (outer:List Env) (s:Shared) (H:Hp) (vs:List V) (Q:VK) (E:XK),Room k (A.deeper (envOfC qual scope s.heap.objs.size f cdv))→sp vs H Q E→
      ∃ t,PSs (cxOf CX P w K mg base N qual scope f cdv A outer s H E) body t∧t {nx:=fun _ H'=>Q .non H',rt:=Q} (start N vs) H) :
    FnOk P w K mg base CX (k+1) f (PySem.W.fnOf name qual params body scope dV kV doc pm an cdv ct) ps sp:=by
  refine ⟨len,fun A outer s H args us vs Q E hr e0 hb r hsp=>?_⟩
  have hl:=len _ _ _ _ hsp
  have KX:K.In s.heap:=e0.mod.kin.keeps fun b o e=>(e0.bs b o e).1
  have lim:s.heap.NoLimit:=e0.mod.nolimit.keeps fun b o e=>(e0.bs b o e).1
  have hkind:∀ y∈ps.zip us,scope.names.lookup y.1=some .local∨(scope.names.lookup y.1=some .cell∧((cellsFrom (s.heap.objs.size+1) scope.names []).lookup y.1).isSome=true):=fun ⟨n,v⟩ hy=>by
    rcases S.par n (List.of_mem_zip hy).1 with q | q
    · exact .inl q
    · exact .inr ⟨q,PySem.W.cellsFrom_some _ _ _ (.inl q)⟩
  refine codeAny_call_function hr.depth (KX _ _ lk) rfl S.co S.gen rfl (PySem.W.codeRec_of KX hcd) (hb _ _ _ _ ?_)
  refine wpAny_newFunctionEnv_cells S.kind hkind fun env he s1 x=>?_
  subst he
  refine ⟨lim.keeps x.toInCall.keep,codeAny_func ?_⟩
  obtain ⟨t,ht,hq⟩:=hbody A outer s H vs Q E (hr.deeper _) hsp
  have I:Inv (cxOf CX P w K mg base N qual scope f cdv A outer s H E) [] (start N vs) H s1:=inv_start S hr.hd e0 hl r x
  refine wpAny_mono (ht [] s1 (start N vs) H _ I hq) (fun fl s' hs=>?_) fun e s' hs=>hs
  have fin:∀ {σ':St} {H':Hp} {v:V} {u:Value},Inv (cxOf CX P w K mg base N qual scope f cdv A outer s H E) [] σ' H' s'→RelV v u→Q v H'→CE outer P w H s Q u s' :=
    fun {σ' H' v u} J rv q=>⟨v,H',J.os,J.bare,J.base,J.hok,rv,q⟩
  cases fl with
  | ret u =>
    obtain ⟨v,σ',H',J,rv,q⟩:=hs
    exact fin J rv q
  | next =>
    obtain ⟨σ',H',J,q⟩:=hs
    exact fin (v:=V.non) (u:=Value.none) J rfl q
  | brk =>
    obtain ⟨_,_,_,q⟩:=hs
    exact False.elim q
  | cont =>
    obtain ⟨_,_,_,q⟩:=hs
    exact False.elim q
end L2
namespace L2
open PySem PySem.Spec PyProof.Rows
section
variable {X:Cx} {x:Str} {p pos:Pos} {e:Expr} {es:List Expr} {t:TA} {id T:String} {r:List V→Hp→VK→Prop}
noncomputable def tCB (r:List V→Hp→VK→Prop) (t:TA):TE:=fun σ H Q=>t σ H fun vs H1=>r vs H1 Q
theorem pe_callB (hc:CallR X (.builtin id) r) (hg:Gl X x) (hm:X.mg x=none) (hv:bootBuiltins x=some (.builtin id)) (ha:PA X (e::es) t) (hn:x≠"__name__":=by decide) (hdb:(x==("__debug__":Str))=false:=by decide)
    (he:starEach (e::es) X.env=(false,eval e X.env)::starEach es X.env:=by rfl) (hpl:(backTo pos (starEach es X.env)).any (·.1)=false:=by rfl):PE X (.Call (.Name x p) (e::es) [] pos) (tCB r t):=by
  intro pins s σ H Q I h
  refine wpAny_Call_Name_kw (ld_blt I hg hm hv ?_ hn hdb)
  exact PyProof.Rows.callWith_builtin1 (thn (ha pos pins s σ H _ I h) fun us s1 ⟨vs,H1,I1,r1,q1⟩=>hc pins s1 σ H1 vs us Q I1 r1 q1) he hpl
theorem pe_callTy (hc:CallR X (.type T) r) (hg:Gl X x) (hm:X.mg x=none) (hv:bootBuiltins x=some (.type T)) (ha:PA X (e::es) t) (hn:x≠"__name__":=by decide) (hdb:(x==("__debug__":Str))=false:=by decide)
    (he:starEach (e::es) X.env=(false,eval e X.env)::starEach es X.env:=by rfl) (hpl:(backTo pos (starEach es X.env)).any (·.1)=false:=by rfl):PE X (.Call (.Name x p) (e::es) [] pos) (tCB r t):=by
  intro pins s σ H Q I h
  refine wpAny_Call_Name_kw (ld_blt I hg hm hv ?_ hn hdb)
  exact PyProof.Rows.callWith_type1 (thn (ha pos pins s σ H _ I h) fun us s1 ⟨vs,H1,I1,r1,q1⟩=>hc pins s1 σ H1 vs us Q I1 r1 q1) he hpl
end
end L2
namespace HT
open PySem PyProof.Rows
section
open PySem.SeqAt
open PySem.AutoSeq1 (wpAny_loadPart')
open PySem.MeetsSeq PySem.MeetsSeq2 PySem.MeetsSeq3
end
section
variable {prog:Program} {w:World} {A:Around} {E:Value→Shared→Prop} {s:Shared}
noncomputable def sIx (n d:Nat):Option Int→Nat
  | none=>d
  | some v=>if v<0 then (v+(n:Int)).toNat else min v.toNat n
theorem sIx_none (n d:Nat):sIx n d none=d:=rfl
theorem sIx_nat (n d k:Nat):sIx n d (some (k:Int))=min k n:=by
  show (if (k:Int)<0 then ((k:Int)+(n:Int)).toNat else min (k:Int).toNat n)=min k n
  rw [if_neg (by omega),Int.toNat_natCast]
end
end HT
namespace L2
open PySem PySem.Spec PyProof.Rows
noncomputable abbrev TO:=St→Hp→(Option Int→Hp→Prop)→Prop
noncomputable def PO (X:Cx) (e:Option Expr) (t:TO):Prop :=
  ∀ (pins:List (Addr×Obj)) (s:Shared) (σ:St) (H:Hp) (Q:Option Int→Hp→Prop),Inv X pins σ H s→t σ H Q→
    wpAny (model X.prog X.w) X.A (evalPart e X.env) (fun u s'=>∃ o H',Inv X pins σ H' s'∧IsPart u o∧Q o H') X.xe s
noncomputable def tNoPart:TO:=fun _ H Q=>Q none H
noncomputable def tPart (t:TE):TO:=fun σ H Q=>t σ H fun x H1=>∃ i,x=.int i∧Q (some i) H1
section
variable {X:Cx} {e:Expr} {te:TE} {lo hi:Option Expr} {tl th:TO} {pos p2:Pos}
theorem po_none:PO X none tNoPart:=by
  intro pins s σ H Q I h
  rw [evalPart_none]
  exact wpAny_pure ⟨none,H,I,.none,h⟩
theorem po_some (h:PE X e te):PO X (some e) (tPart te):=by
  intro pins s σ H Q I hw
  rw [evalPart_some]
  refine thn (h pins s σ H _ I hw) fun u s1 ⟨x,H1,I1,r1,q1⟩=>?_
  obtain ⟨i,rfl,q⟩:=q1
  obtain ⟨t,rfl⟩:=r1
  exact ⟨some i,H1,I1,.int i t,q⟩
noncomputable def SlR (X:Cx) (r:V→Option Int→Option Int→Hp→VK→Prop):Prop :=
  ∀ (pins:List (Addr×Obj)) (s:Shared) (σ:St) (H:Hp) (x:V) (v vl vu:Value) (lo hi:Option Int) (sl:Addr) (Q:VK),Inv X pins σ H s→RelV x v→s.heap.IsSliceOf sl vl vu .none→IsPart vl lo→IsPart vu hi→r x lo hi H Q→
    ∃ T id,typeLookup (.type T) "__getitem__"=pure (some (.builtin id))∧s.TypeIs v T∧wpAny (model X.prog X.w) X.A (getItem v (.ref sl)) (EP X pins σ Q) X.xe s
noncomputable def tSl (r:V→Option Int→Option Int→Hp→VK→Prop) (te:TE) (tl th:TO):TE:=fun σ H Q=>te σ H fun x H1=>tl σ H1 fun l H2=>th σ H2 fun u H3=>r x l u H3 Q
theorem pe_slice {r:V→Option Int→Option Int→Hp→VK→Prop} (hr:SlR X r) (he:PE X e te) (hl:PO X lo tl) (hu:PO X hi th):PE X (.Subscript e (.Slice lo hi none p2) pos) (tSl r te tl th):=by
  intro pins s σ H Q I h
  refine Subscript_ (thn (he pins s σ H _ I h) fun v s1 ⟨x,H1,I1,r1,q1⟩=>?_)
  refine wpAny_Slice (thn (hl pins s1 σ H1 _ I1 q1) fun vl s2 ⟨l,H2,I2,pl,q2⟩=>thn (hu pins s2 σ H2 _ I2 q2) fun vu s3 ⟨u,H3,I3,pu,q3⟩=>?_)
  rw [evalPart_none]
  refine wpAny_pure ?_
  have I4:Inv X pins σ H3 {s3 with heap:=s3.heap.push {cls:=.type "slice",data:=.fields #[vl,vu,.none]}}:=I3.kept (t':=s3.toks) fun b ob q=>Heap.get?_push_of_some _ q
  obtain ⟨T,id,hT,ht,hg⟩:=hr pins {s3 with heap:=s3.heap.push {cls:=.type "slice",data:=.fields #[vl,vu,.none]}} σ H3 x v vl vu l u s3.heap.objs.size Q I4 r1 (Heap.IsSliceOf.new ..) pl pu q3
  show wpAny (model X.prog X.w) X.A (subscriptTail e (.Slice lo hi none p2) v (.ref s3.heap.objs.size)) (EP X pins σ Q) X.xe {s3 with heap:=s3.heap.push {cls:=.type "slice",data:=.fields #[vl,vu,.none]}}
  exact tail_any (ops:=[.ref s3.heap.objs.size,v]) ht hT hg (by with_unfolding_all rfl)
noncomputable def cutV (xs:List V) (lo hi:Option Int):List V:=(xs.drop (HT.sIx xs.length 0 lo)).take (HT.sIx xs.length xs.length hi - HT.sIx xs.length 0 lo)
theorem cutV_length (xs:List V) (lo hi:Option Int):(cutV xs lo hi).length≤xs.length:=by
  unfold cutV
  rw [List.length_take,List.length_drop]
  omega
end
end L2
namespace L2
open PySem PySem.Spec PyProof.Rows
noncomputable def ixN (n:Nat) (i:Int):Option Nat:=if 0≤i then (if i<n then some i.toNat else none) else if -(n:Int)≤i then some (i+n).toNat else none
noncomputable def atI {α:Type} (xs:List α) (i:Int):Option α:=(ixN xs.length i).bind fun j=>xs[j]?
theorem ixN_seq {n:Nat} {i:Int} {j:Nat} (h:ixN n i=some j):seqIndex? i n=some j∧j<n∧-(n:Int)≤i∧i<n:=by
  unfold ixN at h
  by_cases h0:0≤i
  · rw [if_pos h0] at h
    by_cases h1:i<n
    · rw [if_pos h1] at h
      have e:i.toNat=j:=Option.some.inj h
      exact ⟨by rw [seqIndex_of h0 h1,e],by omega,by omega,h1⟩
    · rw [if_neg h1] at h;cases h
  · rw [if_neg h0] at h
    by_cases h1 : -(n:Int)≤i
    · rw [if_pos h1] at h
      have e:(i+n).toNat=j:=Option.some.inj h
      exact ⟨by rw [seqIndex_neg (by omega) h1,e],by omega,h1,by omega⟩
    · rw [if_neg h1] at h;cases h
theorem atI_get {α:Type} {xs:List α} {i:Int} {v:α} (h:atI xs i=some v):∃ j,seqIndex? i xs.length=some j∧xs[j]?=some v∧j<xs.length∧-(xs.length:Int)≤i∧i<xs.length:=by
  unfold atI at h
  cases e:ixN xs.length i with
  | none=>rw [e] at h;cases h
  | some j =>
    rw [e] at h
    obtain ⟨h1,h2,h3,h4⟩:=ixN_seq e
    exact ⟨j,h1,h,h2,h3,h4⟩
theorem atI_nat {α:Type} {xs:List α} {j:Nat} {v:α} (h:xs[j]?=some v):atI xs (j:Int)=some v:=by
  have hj:j<xs.length:=(List.getElem?_eq_some_iff.mp h).1
  have e:ixN xs.length (j:Int)=some j:=by
    unfold ixN
    rw [if_pos (by omega),if_pos (by omega)];simp
  unfold atI;rw [e];exact h
theorem atI_last {α:Type} (xs:List α) (v:α):atI (xs++[v]) (-1)=some v:=by
  have hl:(xs++[v]).length=xs.length+1:=by simp
  have e:ixN (xs++[v]).length (-1)=some xs.length:=by
    unfold ixN
    rw [hl,if_neg (by decide),if_pos (by omega)]
    congr 1
    omega
  unfold atI
  rw [e]
  show (xs++[v])[xs.length]?=some v
  simp
noncomputable def PlainIx (b:Expr):Prop:=∀ o i,subscripted b false o i=operate [o,i] (getItem o i)
noncomputable def IxR (X:Cx) (r:R2):Prop :=
  ∀ (value slice:Expr) (pins:List (Addr×Obj)) (s:Shared) (σ:St) (H:Hp) (x y:V) (v u:Value) (Q:VK),Inv X pins σ H s→RelV x v→RelV y u→r x y H Q→
    subscripted slice false v u=operate [v,u] (getItem v u)→wpAny (model X.prog X.w) X.A (subscriptTail value slice v u) (EP X pins σ Q) X.xe s
noncomputable def MtR (X:Cx) (id:String) (r:V→List V→Hp→VK→Prop):Prop :=
  ∀ (pins:List (Addr×Obj)) (s:Shared) (σ:St) (H:Hp) (x:V) (xs:List V) (v:Value) (us:List Value) (Q:VK),Inv X pins σ H s→RelV x v→Vals xs us→r x xs H Q→
    wpAny (model X.prog X.w) X.A (call (.builtin id) (v::us)) (EP X pins σ Q) X.xe s
section
variable {X:Cx} {a b:Expr} {ta tb:TE} {pos:Pos}
theorem pe_ix {r:R2} (hr:IxR X r) (ha:PE X a ta) (hb:PE X b tb) (hs:PlainIx b):PE X (.Subscript a b pos) (tOp r ta tb):=by
  intro pins s σ H Q I h
  exact Subscript_ (binT ha hb I h fun v u s2 x y H2 I2 rx ry q=>hr a b pins s2 σ H2 x y v u Q I2 rx ry q (hs _ _))
noncomputable def rIxL (K:PySem.W.Frag):R2:=fun x y H Q=>∃ p xs i v,x=.ref p∧y=.int i∧SqL K H p xs∧atI xs i=some v∧Q v H
noncomputable def rIxT (K:PySem.W.Frag):R2:=fun x y H Q=>∃ p xs i v,x=.ref p∧y=.int i∧SqT K H p xs∧atI xs i=some v∧Q v H
theorem ix_list:IxR X (rIxL X.K):=by
  intro value slice pins s σ H x y v u Q I rx ry h hs
  obtain ⟨p,xs,i,z,rfl,rfl,hq,he,q⟩:=h
  cases rx
  obtain ⟨t,rfl⟩:=ry
  obtain ⟨its,r,pl,hz⟩:=I.list hq
  obtain ⟨j,h1,h2,h3,h4,h5⟩:=atI_get he
  obtain ⟨w,ew,rw'⟩:=r.get h2
  have hl:=r.length
  have hn:=line63
  have fin:EP X pins σ Q w s:=⟨z,H,I,rw',q⟩
  by_cases h0:0≤i
  · have hj:i.toNat=j:=by
      rw [seqIndex_of h0 h5] at h1
      exact Option.some.inj h1
    exact item_listR pl.isList h0 (by omega) (by rw [hj];simpa using ew) fin hs
  · have hj:(i+(its.toArray.size:Int)).toNat=j:=by
      rw [seqIndex_neg (by omega) h4] at h1
      rw [List.size_toArray,← hl]
      exact Option.some.inj h1
    exact subscriptTail_builtinR (x:=w) pl.isList.typeIs slot_list_getitem.lookup
      (wpAny_getItem_list_neg (Q:=fun r s'=>r=w∧EP X pins σ Q r s') pl.isList (by omega) (by rw [List.size_toArray] <;> omega) (by omega) (by rw [hj];simpa using ew) ⟨rfl,fin⟩) hs
theorem ix_tup:IxR X (rIxT X.K):=by
  intro value slice pins s σ H x y v u Q I rx ry h hs
  obtain ⟨p,xs,i,z,rfl,rfl,hq,he,q⟩:=h
  cases rx
  obtain ⟨t,rfl⟩:=ry
  obtain ⟨its,r,pl,hz⟩:=I.tuple hq
  obtain ⟨j,h1,h2,h3,h4,h5⟩:=atI_get he
  obtain ⟨w,ew,rw'⟩:=r.get h2
  have hl:=r.length
  have hn:=line63
  have fin:EP X pins σ Q w s:=⟨z,H,I,rw',q⟩
  exact subscriptTail_builtinR (x:=w) pl.typeIs slot_tuple_getitem.lookup
    (getItem_tuple (j:=j) (Q:=fun r s'=>r=w∧EP X pins σ Q r s') pl (by omega) (by omega) (by rw [List.size_toArray,← hl];exact h1) (by simpa using ew) ⟨rfl,fin⟩) hs
theorem mapSeq_set (its:List Value) (n j:Nat) (u:Value):Obj.mapSeq (·.setIfInBounds j u) {cls:=.type "list",data:=.seq its.toArray n}={cls:=.type "list",data:=.seq (its.set j u).toArray n}:=by
  simp [Obj.mapSeq]
theorem Inv.lst {pins:List (Addr×Obj)} {σ:St} {H:Hp} {s:Shared} {p:Addr} {xs:List V} (I:Inv X pins σ H s) (h:H p=some (.lst xs)) :
    ∃ (its:List Value) (n:Nat),Vals xs its∧s.heap.get? p=some {cls:=.type "list",data:=.seq its.toArray n}∧xs.length≤sizeLine:=by
  obtain ⟨z,its,n,r,e⟩:=I.hok p _ h
  exact ⟨its,n,r,e,z⟩
theorem Inv.lstUpd {pins:List (Addr×Obj)} {σ:St} {H:Hp} {s:Shared} {p:Addr} {xs ys:List V} {its its':List Value} {n n':Nat} {f:Obj→Obj} (I:Inv X pins σ H s) (h:H p=some (.lst xs))
    (ho:s.heap.get? p=some {cls:=.type "list",data:=.seq its.toArray n}) (hf:f {cls:=.type "list",data:=.seq its.toArray n}={cls:=.type "list",data:=.seq its'.toArray n'}) (r:Vals ys its') (hz:ys.length≤sizeLine) (t:Nat) :
    Inv X pins σ (upd H p (.lst ys)) {s with heap:=s.heap.update p f,toks:=t}:=by
  have e:(s.heap.update p f).get? p=some {cls:=.type "list",data:=.seq its'.toArray n'}:=by
    rw [Heap.get?_update_self f ho (by rw [hf] <;> rfl),hf]
  refine I.write (x:=p) (e:=p) (by rw [h];trivial) (.inl rfl) (fun b u hb q=>(Heap.get?_update_other _ _ (Ne.symm hb)).trans q) ⟨_,e⟩ ?_
  exact ⟨hz,its',n',r,e⟩
noncomputable def rSetL:V→V→V→Hp→(Hp→Prop)→Prop:=fun o i v H Q=>∃ p xs k j,o=.ref p∧i=.int k∧H p=some (.lst xs)∧ixN xs.length k=some j∧Q (upd H p (.lst (xs.set j v)))
theorem set_list:PSet X rSetL:=by
  intro pins s σ H o i v ov iv u Q I ro ri rv h
  obtain ⟨p,xs,k,j,rfl,rfl,hp,hj,q⟩:=h
  cases ro
  obtain ⟨t,rfl⟩:=ri
  obtain ⟨its,n,r,ho,hz⟩:=I.lst hp
  obtain ⟨h1,h2,h3,h4⟩:=ixN_seq hj
  have hl:=r.length
  have hn:=line63
  have I':Inv X pins σ (upd H p (.lst (xs.set j v))) {s with heap:=s.heap.update p (Obj.mapSeq (·.setIfInBounds j u))} :=
    I.lstUpd hp ho (mapSeq_set its n j u) (r.set rv j) (by rw [List.length_set];exact hz) s.toks
  by_cases h0:0≤k
  · have hk:k.toNat=j:=by
      rw [seqIndex_of h0 h4] at h1
      exact Option.some.inj h1
    exact PySem.W.ki_setAt ho h0 (by omega) (by rw [List.size_toArray,← hl];exact h4) (by rw [hk];exact ⟨_,I',q⟩)
  · have hk:(k+(its.toArray.size:Int)).toNat=j:=by
      rw [seqIndex_neg (by omega) h3] at h1
      rw [List.size_toArray,← hl]
      exact Option.some.inj h1
    exact PySem.W.ki_setBack ho (by omega) (by rw [List.size_toArray,← hl];exact h3) (by omega) (by rw [hk];exact ⟨_,I',q⟩)
theorem slice_bounds (lo hi:Option Int) (n:Nat):(sliceBounds lo hi none n).1=((HT.sIx n 0 lo:Nat):Int)∧(sliceBounds lo hi none n).2.1=((HT.sIx n n hi:Nat):Int)∧(sliceBounds lo hi none n).2.2=1:=by
  refine ⟨?_,?_,rfl⟩
  · cases lo with
    | none=>simp [sliceBounds,HT.sIx]
    | some i =>
      simp only [sliceBounds,HT.sIx,Option.getD_none,show (1:Int)>0 by decide,if_true]
      by_cases h:i<0
      · simp only [h,if_true] <;> omega
      · simp only [h,if_false] <;> omega
  · cases hi with
    | none=>simp [sliceBounds,HT.sIx]
    | some i =>
      simp only [sliceBounds,HT.sIx,Option.getD_none,show (1:Int)>0 by decide,if_true]
      by_cases h:i<0
      · simp only [h,if_true] <;> omega
      · simp only [h,if_false] <;> omega
theorem slicePick_cut (its:List Value) (lo hi:Option Int):slicePick its.toArray lo hi none=((its.drop (HT.sIx its.length 0 lo)).take (HT.sIx its.length its.length hi - HT.sIx its.length 0 lo)).toArray:=by
  obtain ⟨h1,h2,h3⟩:=slice_bounds lo hi its.toArray.size
  unfold slicePick
  rw [h1,h2,h3]
  simp only [sliceRange_one,pick_run,List.size_toArray] <;> rfl
noncomputable def rSlL (K:PySem.W.Frag):V→Option Int→Option Int→Hp→VK→Prop:=fun x lo hi H Q=>∃ a xs,x=.ref a∧SqL K H a xs∧∀ p,H p=none→Q (.ref p) (upd H p (.lst (cutV xs lo hi)))
theorem sl_list:SlR X (rSlL X.K):=by
  intro pins s σ H x v vl vu lo hi sl Q I rx hs pl pu h
  obtain ⟨a,xs,rfl,hx,q⟩:=h
  cases rx
  obtain ⟨its,r,ht,hz⟩:=I.list hx
  have hlen:=r.length
  refine ⟨"list",_,slot_list_getitem.lookup,ht.isList.typeIs,?_⟩
  refine wpAny_getItem_list_slice ht.isList hs pl pu .none (by simp) ?_ (by rw [List.size_toArray] <;> omega)
  rw [slicePick_cut,← hlen]
  refine ⟨.ref s.heap.objs.size,_,I.laid (t':=s.toks) (o:=.lst (cutV xs lo hi)) (fun b ob q=>Heap.get?_push_of_some _ q) (Nat.le_refl _) ?_,rfl,q _ (I.hok.fresh (Nat.le_refl _))⟩
  exact ⟨Nat.le_trans (cutV_length xs lo hi) hz,_,0,(r.drop (HT.sIx xs.length 0 lo)).take (HT.sIx xs.length xs.length hi - HT.sIx xs.length 0 lo),Heap.get?_push_size _ rfl⟩
theorem call_len_seq:CallR X (.builtin "len") (fun xs H Q=>∃ p ys,xs=[.ref p]∧(SqL X.K H p ys∨SqT X.K H p ys)∧Q (.int ys.length) H):=by
  intro pins s σ H xs us Q I r h
  obtain ⟨p,ys,rfl,hq,q⟩:=h
  obtain ⟨u,rfl,rx⟩:=vals1 r
  cases rx
  have hn:=line63
  rcases hq with hq | hq
  · obtain ⟨its,r',pl,hz⟩:=I.list hq
    have hlen:=r'.length
    exact Calls.call_len_list pl.isList (by simp only [List.size_toArray] <;> omega) ⟨.int ys.length,H,I.tok _,⟨s.toks+1,by rw [List.size_toArray,hlen]⟩,q⟩
  · obtain ⟨its,r',pl,hz⟩:=I.tuple hq
    have hlen:=r'.length
    exact len_tuple pl (by simp only [List.size_toArray] <;> omega) ⟨.int ys.length,H,I.tok _,⟨s.toks+1,by rw [List.size_toArray,hlen]⟩,q⟩
theorem call_list_of:CallR X (.type "list") (fun xs H Q=>∃ p ys,xs=[.ref p]∧(SqL X.K H p ys∨SqT X.K H p ys)∧∀ l,H l=none→Q (.ref l) (upd H l (.lst ys))):=by
  intro pins s σ H xs us Q I r h
  obtain ⟨p,ys,rfl,hq,q⟩:=h
  obtain ⟨u,rfl,rx⟩:=vals1 r
  cases rx
  have fin:∀ (its:List Value),Vals ys its→ys.length≤sizeLine→∀ (h':Heap) (c':Nat),(∀ b o',s.heap.get? b=some o'→h'.get? b=some o')→
      h'.get? s.heap.objs.size=some {cls:=.type "list",dict:=none,data:=.seq its.toArray c',slots:=#[]}→EP X pins σ Q (.ref s.heap.objs.size) {s with heap:=h'}:=fun its r' hz h' c' kp e =>
    ⟨.ref s.heap.objs.size,_,I.laid (t':=s.toks) kp (Nat.le_refl _) (show ObjOk X.prog X.w _ h' _ (.lst ys) from ⟨hz,its,c',r',e⟩),rfl,q _ (I.hok.fresh (Nat.le_refl _))⟩
  rcases hq with hq | hq
  · obtain ⟨its,r',pl,hz⟩:=I.list hq
    have hlen:=r'.length
    obtain ⟨o,ho,hc,n,hd⟩:=pl.isList
    exact call_list_seq p (.inl rfl) ho hc hd (fun h' c' kp e=>fin its r' hz h' c' kp e) (by simp only [List.size_toArray] <;> omega)
  · obtain ⟨its,r',pl,hz⟩:=I.tuple hq
    have hlen:=r'.length
    obtain ⟨o,ho,hc,n,hd⟩:=pl
    exact call_list_seq p (.inr rfl) ho hc hd (fun h' c' kp e=>fin its r' hz h' c' kp e) (by simp only [List.size_toArray] <;> omega)
noncomputable def tyV (K:PySem.W.Frag) (T:String) (x:V) (H:Hp):Prop:=match x with
  | .str _=>T="str"
  | .int _=>T="int"
  | .ref p=>(T="list"∧∃ xs,SqL K H p xs)∨(T="tuple"∧∃ o,K.lookup p=some o∧o.cls=.type "tuple"∧o.dict=none)∨
      (T="dict"∧((∃ kvs,H p=some (.dK kvs))∨∃ kvs,H p=some (.dT kvs)))∨(T="set"∧∃ S n,H p=some (.set S n))
  | _=>False
theorem tyV_is {pins:List (Addr×Obj)} {σ:St} {H:Hp} {s:Shared} {T:String} {x:V} {v:Value} (I:Inv X pins σ H s) (r:RelV x v) (ty:tyV X.K T x H) :
    s.TypeIs v T∧∀ a,v=.ref a→∃ ob,s.heap.get? a=some ob∧ob.dict=none:=by
  cases x with
  | str z =>
    obtain ⟨t,rfl⟩:=r
    cases (show T="str" from ty)
    exact ⟨typeIs_str s z t,fun _ e=>nomatch e⟩
  | int i =>
    obtain ⟨t,rfl⟩:=r
    cases (show T="int" from ty)
    exact ⟨typeIs_int s i t,fun _ e=>nomatch e⟩
  | ref p =>
    cases r
    rcases ty with ⟨rfl,xs,hq⟩ | ⟨rfl,o,hk,hc,hd⟩ | ⟨rfl,hk⟩ | ⟨rfl,S,n,hk⟩
    · obtain ⟨its,_,pl,_⟩:=I.list hq
      refine ⟨pl.isList.typeIs,fun a e=>?_⟩
      cases e
      obtain ⟨o,n,e,c,hd,_⟩:=pl
      exact ⟨o,e,hd⟩
    · refine ⟨⟨o,I.kIn p o hk,hc⟩,fun a e=>?_⟩
      cases e
      exact ⟨o,I.kIn _ o hk,hd⟩
    · have z:∃ o,s.heap.get? p=some o∧o.ExactDict:=by
        rcases hk with ⟨kvs,hk⟩ | ⟨kvs,hk⟩
        · obtain ⟨_,_,_,_,o,_,_,e,ex,_⟩:=I.hok p _ hk
          exact ⟨o,e,ex⟩
        · obtain ⟨_,_,_,_,o,_,_,e,ex,_⟩:=I.hok p _ hk
          exact ⟨o,e,ex⟩
      obtain ⟨o,e,ex⟩:=z
      refine ⟨⟨o,e,ex.1⟩,fun a e2=>?_⟩
      cases e2
      exact ⟨o,e,ex.2.1⟩
    · obtain ⟨o,_,_,_,e,ex,_⟩:=I.hok p _ hk
      refine ⟨⟨o,e,ex.1⟩,fun a e2=>?_⟩
      cases e2
      exact ⟨o,e,ex.2.1⟩
  | _=>exact False.elim ty
noncomputable def tBM0 (K:PySem.W.Frag) (T:String) (r:V→List V→Hp→VK→Prop) (to:TE):TE:=fun σ H Q=>to σ H fun x H1=>tyV K T x H1∧r x [] H1 Q
noncomputable def tBM (K:PySem.W.Frag) (T:String) (r:V→List V→Hp→VK→Prop) (to:TE) (t:TA):TE:=fun σ H Q=>to σ H fun x H1=>tyV K T x H1∧t σ H1 fun xs H2=>r x xs H2 Q
variable {o e:Expr} {es:List Expr} {to:TE} {t:TA} {name:Str} {apos cpos:Pos} {T id:String} {r:V→List V→Hp→VK→Prop}
theorem pe_bm0 (pa:PlainAttrs T) (slot:Slot T name id) (hty:typeOf (.builtin id)=pure (.type "method_descriptor")) (hm:MtR X id r) (ho:PE X o to)
    (hbase:attributeBase o name X.env (eval o X.env)=eval o X.env:=by rfl) (hline:(apos.endLine==cpos.line)=true:=by rfl):PE X (.Call (.Attribute o name apos) [] [] cpos) (tBM0 X.K T r to):=by
  intro pins s σ H Q I h
  refine wpAny_Call_method0_late hbase hline (thn (ho pins s σ H _ I h) fun v s1 ⟨x,H1,I1,r1,ty,q1⟩=>?_)
  obtain ⟨h1,h2⟩:=tyV_is I1 r1 ty
  exact ⟨T,id,pa,slot,hty,h1,h2,Calls.callWith_builtin rfl (PySem.evalArgs_none (hm pins s1 σ H1 x [] v [] Q I1 r1 .nil q1))⟩
theorem pe_bm (pa:PlainAttrs T) (slot:Slot T name id) (hty:typeOf (.builtin id)=pure (.type "method_descriptor")) (hm:MtR X id r) (ho:PE X o to) (ha:PA X (e::es) t)
    (hbase:attributeBase o name X.env (eval o X.env)=eval o X.env:=by rfl)
    (hfew:((backTo cpos (starEach (e::es) X.env)).all (fun x=>!x.1)&&(backToKw cpos (keywordEach [] X.env)).all (fun x=>x.1.isSome)
      && decide ((e::es).length+([]:List Keyword).length+(if ([]:List Keyword).isEmpty then 0 else 1)<30))=true:=by rfl)
    (hline:(apos.endLine==cpos.line)=true:=by rfl) (hs:starEach (e::es) X.env=(false,eval e X.env)::starEach es X.env:=by rfl) (hplain:(backTo cpos (starEach es X.env)).any (·.1)=false:=by rfl) :
    PE X (.Call (.Attribute o name apos) (e::es) [] cpos) (tBM X.K T r to t):=by
  intro pins s σ H Q I h
  refine wpAny_Call_method_late hbase hfew hline rfl (thn (ho pins s σ H _ I h) fun v s1 ⟨x,H1,I1,r1,ty,q1⟩=>?_)
  obtain ⟨h1,h2⟩:=tyV_is I1 r1 ty
  refine ⟨T,id,pa,slot,hty,h1,h2,?_⟩
  have hA:=ha cpos pins s1 σ H1 _ I1 q1
  rw [hs] at hA⊢
  refine Calls.callWith_builtin (by show (false || (backTo cpos (starEach es X.env)).any (·.1))=false;rw [hplain] <;> rfl) (Calls.evalArgs_plain ?_)
  exact thn hA fun us s2 ⟨vs,H2,I2,r2,q2⟩=>hm pins s2 σ H2 x vs v us Q I2 r1 r2 q2
/- xs.append(e), list.index on a module's tuple .. are MtR facts of 06m -/
end
end L2
namespace L2
open PySem PySem.Spec PyProof.Rows
noncomputable def MtM (X:Cx) (id:String) (r:V→List V→Hp→VK→Prop):Prop :=
  ∀ (pins:List (Addr×Obj)) (s:Shared) (σ:St) (H:Hp) (x:V) (xs:List V) (v:Value) (us:List Value) (Q:VK),Inv X pins σ H s→RelV x v→Vals xs us→r x xs H Q→
    wpAny (model X.prog X.w) X.A (call (.builtin id) (v::us)) (EP X pins σ Q) X.xe s
theorem Vals.one:∀ {x:V} {us:List Value},Vals [x] us→∃ u,us=[u]∧RelV x u
  | _,_,.cons r .nil=>⟨_,rfl,r⟩
theorem Vals.two:∀ {x y:V} {us:List Value},Vals [x,y] us→∃ u v,us=[u,v]∧RelV x u∧RelV y v
  | _,_,_,.cons r (.cons q .nil)=>⟨_,_,rfl,r,q⟩
theorem Vals.zero:∀ {us:List Value},Vals [] us→us=[]
  | _,.nil=>rfl
theorem Vals.dropLast {xs:List V} {us:List Value} (h:Vals xs us):Vals xs.dropLast us.dropLast:=by
  induction h with
  | nil=>exact .nil
  | cons r t ih =>
    cases t with
    | nil=>exact .nil
    | cons q t'=>exact .cons r ih
theorem Vals.rep {xs:List V} {us:List Value} (h:Vals xs us):∀ k:Nat,Vals (List.replicate k xs).flatten (List.replicate k us).flatten
  | 0=>.nil
  | k+1=>by
    rw [List.replicate_succ,List.replicate_succ,List.flatten_cons,List.flatten_cons]
    exact Vals.append h (Vals.rep h k)
theorem erase_last {α:Type} (l:List α):l.eraseIdx (l.length - 1)=l.dropLast:=by
  induction l with
  | nil=>rfl
  | cons a r ih =>
    cases r with
    | nil=>rfl
    | cons b r =>
      have e:(a::b::r).length - 1=((b::r).length - 1)+1:=by
        have h1:(a::b::r).length=r.length+2:=rfl
        have h2:(b::r).length=r.length+1:=rfl
        omega
      rw [e,List.eraseIdx_cons_succ,ih]
      all_goals rfl
theorem foldl_rep (its:List Value):∀ (k:Nat) (acc:List Value),
    List.foldl (fun x1 x2=>x1++x2) acc.toArray (List.replicate k its.toArray)=(acc++(List.replicate k its).flatten).toArray
  | 0,acc=>by simp
  | k+1,acc=>by
    have e:acc.toArray++its.toArray=(acc++its).toArray:=by simp
    have e2:(acc++its)++(List.replicate k its).flatten=acc++(List.replicate (k+1) its).flatten:=by
      rw [List.replicate_succ,List.flatten_cons,List.append_assoc]
    rw [← e2,← foldl_rep its k (acc++its),← e,List.replicate_succ,List.foldl_cons]
section
variable {X:Cx} {pins:List (Addr×Obj)} {σ:St} {H:Hp} {s:Shared} {l b:Addr} {xs ys zs:List V}
theorem Inv.lset {its its':List Value} {n:Nat} {f:Array Value→Array Value} {t':Nat} (I:Inv X pins σ H s) (hH:H l=some (.lst xs))
    (e:s.heap.get? l=some {cls:=.type "list",data:=.seq its.toArray n}) (hf:f its.toArray=its'.toArray) (hv:Vals ys its') (hz:ys.length≤sizeLine) :
    Inv X pins σ (upd H l (.lst ys)) {s with heap:=s.heap.update l (Obj.mapSeq f),toks:=t'}:=by
  have q:=PySem.IsL.update e f
  rw [hf] at q
  refine I.write (x:=l) (e:=l) (by rw [hH];exact trivial) (.inl rfl) (fun b' u hb hu=>(Heap.get?_update_other s.heap (Obj.mapSeq f) (Ne.symm hb)).trans hu) ⟨_,q⟩ ?_
  exact ⟨hz,its',_,hv,q⟩
theorem Inv.lnew {its:List Value} {t':Nat} (I:Inv X pins σ H s) (hv:Vals ys its) (hz:ys.length≤sizeLine) :
    Inv X pins σ (upd H s.heap.objs.size (.lst ys)) {s with heap:=s.heap.push {cls:=.type "list",data:=.seq its.toArray},toks:=t'} :=
  I.laid (fun _ _ q=>Heap.get?_push_of_some _ q) (Nat.le_refl _) ⟨hz,its,0,hv,Heap.get?_push_size _ rfl⟩
theorem Inv.fresh (I:Inv X pins σ H s):H s.heap.objs.size=none:=I.hok.fresh (Nat.le_refl _)
theorem Inv.lstM (I:Inv X pins σ H s) (hH:H l=some (.lst xs)):xs.length≤sizeLine∧∃ (its:List Value) (n:Nat),Vals xs its∧xs.length=its.length∧s.heap.get? l=some {cls:=.type "list",data:=.seq its.toArray n}:=by
  obtain ⟨z,its,n,r,e⟩:=I.hok l _ hH
  exact ⟨z,its,n,r,r.length,e⟩
theorem notLongL {n:Nat} (h:n≤sizeLine):Builtin.List.listTooLong n=false:=by
  unfold Builtin.List.listTooLong
  exact decide_eq_false (by omega)
end
section
variable {X:Cx}
noncomputable def rAppend:V→List V→Hp→VK→Prop:=fun x vs H Q=>∃ l xs y,x=.ref l∧vs=[y]∧H l=some (.lst xs)∧xs.length<sizeLine∧Q .non (upd H l (.lst (xs++[y])))
theorem mt_append:MtM X "list.append" rAppend:=by
  intro pins s σ H x vs v us Q I rx rv h
  obtain ⟨l,xs,y,rfl,rfl,hH,hz,q⟩:=h
  cases rx
  obtain ⟨u,rfl,ru⟩:=rv.one
  obtain ⟨z,its,n,r,hl,e⟩:=I.lstM hH
  refine call_meets F.slot_list_append ⟨_,e,rfl⟩ F.entry_list_append (F.args_list_append_2 _ _) (PySem.list_append l its.toArray n u (by rw [List.size_toArray];omega)) ⟨e,?_⟩
  refine ⟨.non,_,I.lset (its':=its++[u]) hH e (by simp) (r.append (.cons ru .nil)) ?_,rfl,q⟩
  rw [List.length_append,List.length_singleton]
  omega
noncomputable def rExtend:V→List V→Hp→VK→Prop:=fun x vs H Q=>∃ l b xs zs,x=.ref l∧vs=[.ref b]∧H l=some (.lst xs)∧H b=some (.lst zs)∧xs.length+zs.length≤sizeLine∧Q .non (upd H l (.lst (xs++zs)))
theorem mt_extend:MtM X "list.extend" rExtend:=by
  intro pins s σ H x vs v us Q I rx rv h
  obtain ⟨l,b,xs,zs,rfl,rfl,hH,hB,hz,q⟩:=h
  cases rx
  obtain ⟨u,rfl,ru⟩:=rv.one
  cases ru
  obtain ⟨z,its,n,r,hl,e⟩:=I.lstM hH
  obtain ⟨z2,its2,n2,r2,hl2,e2⟩:=I.lstM hB
  have hsz:its.toArray.size+its2.toArray.size≤sizeLine:=by rw [List.size_toArray,List.size_toArray];omega
  have hlong:¬ (!its.toArray.isEmpty&&Builtin.List.listTooLong (its.toArray.size+its2.toArray.size))=true:=by
    rw [notLongL hsz,Bool.and_false]
    exact Bool.false_ne_true
  refine call_meets F.slot_list_extend ⟨_,e,rfl⟩ F.entry_list_extend (F.args_list_extend_2 _ _)
    (AutoSeq1.list_extend_list_list_0 l its.toArray n b its2.toArray n2 hlong (by rw [List.size_toArray];omega) (by omega)) ⟨e,e2,?_⟩
  refine ⟨.non,_,I.lset (its':=its++its2) hH e (by simp) (r.append r2) ?_,rfl,q⟩
  rw [List.length_append]
  omega
noncomputable def rPop:V→List V→Hp→VK→Prop:=fun x vs H Q=>∃ l xs y,x=.ref l∧vs=[]∧H l=some (.lst xs)∧xs[xs.length - 1]?=some y∧Q y (upd H l (.lst xs.dropLast))
theorem mt_pop:MtM X "list.pop" rPop:=by
  intro pins s σ H x vs v us Q I rx rv h
  obtain ⟨l,xs,y,rfl,rfl,hH,hy,q⟩:=h
  cases rx
  have hus:=rv.zero
  subst hus
  obtain ⟨z,its,n,r,hl,e⟩:=I.lstM hH
  obtain ⟨u,hu,ru⟩:=r.get hy
  have hy':its.toArray[its.toArray.size - 1]?=some u:=by
    show its.toArray[its.length - 1]?=some u
    rw [← Array.getElem?_toList,← hl]
    exact hu
  refine call_meets F.slot_list_pop ⟨_,e,rfl⟩ F.entry_list_pop (F.args_list_pop_1 _) (MeetsSeq.list_pop_last l its.toArray n u hy' (by rw [List.size_toArray];omega)) ⟨e,?_⟩
  refine ⟨y,_,I.lset (its':=its.dropLast) hH e ?_ r.dropLast ?_,ru,q⟩
  · show its.toArray.eraseIdxIfInBounds (its.toArray.size - 1)=its.dropLast.toArray
    rw [List.size_toArray,List.eraseIdxIfInBounds_toArray,erase_last]
  · rw [List.length_dropLast]
    omega
noncomputable def rClear:V→List V→Hp→VK→Prop:=fun x vs H Q=>∃ l xs,x=.ref l∧vs=[]∧H l=some (.lst xs)∧Q .non (upd H l (.lst []))
theorem mt_clear:MtM X "list.clear" rClear:=by
  intro pins s σ H x vs v us Q I rx rv h
  obtain ⟨l,xs,rfl,rfl,hH,q⟩:=h
  cases rx
  have hus:=rv.zero
  subst hus
  obtain ⟨z,its,n,r,hl,e⟩:=I.lstM hH
  refine call_meets F.slot_list_clear ⟨_,e,rfl⟩ F.entry_list_clear (F.args_list_clear_1 _) (AutoSeq1.list_clear_list_0 l its.toArray n (by rw [List.size_toArray];omega)) ⟨e,?_⟩
  exact ⟨.non,_,I.lset (its':=[]) (ys:=[]) hH e rfl .nil (Nat.zero_le _),rfl,q⟩
noncomputable def rCat:R2:=fun x y H Q=>∃ l b xs zs,x=.ref l∧y=.ref b∧H l=some (.lst xs)∧H b=some (.lst zs)∧xs.length+zs.length≤sizeLine∧∀ p,H p=none→Q (.ref p) (upd H p (.lst (xs++zs)))
theorem op_cat:OpR X (binaryOp .Add) rCat:=by
  intro pins s σ H x y v u Q I rx ry h
  obtain ⟨l,b,xs,zs,rfl,rfl,hH,hB,hz,q⟩:=h
  cases rx
  cases ry
  obtain ⟨z,its,n,r,hl,e⟩:=I.lstM hH
  obtain ⟨z2,its2,n2,r2,hl2,e2⟩:=I.lstM hB
  refine PySem.P.add_list e e2 ?_ (by rw [List.size_toArray,List.size_toArray];omega)
  have ea:its.toArray++its2.toArray=(its++its2).toArray:=by simp
  rw [ea]
  exact ⟨.ref _,_,I.lnew (t':=s.toks) (r.append r2) (by rw [List.length_append];omega),rfl,q _ I.fresh⟩
noncomputable def rRep:R2:=fun x y H Q=>∃ l k xs,x=.ref l∧y=.int k∧H l=some (.lst xs)∧-(2 ^ 63)≤k∧k<2 ^ 63∧xs.length*k.toNat≤sizeLine∧
  ∀ p,H p=none→Q (.ref p) (upd H p (.lst (List.replicate k.toNat xs).flatten))
theorem len_rep {α:Type} (xs:List α) (k:Nat):(List.replicate k xs).flatten.length=k*xs.length:=by
  induction k with
  | zero=>simp
  | succ k ih=>rw [List.replicate_succ,List.flatten_cons,List.length_append,ih,Nat.succ_mul,Nat.add_comm]
theorem op_rep:OpR X (binaryOp .Mult) rRep:=by
  intro pins s σ H x y v u Q I rx ry h
  obtain ⟨l,k,xs,rfl,rfl,hH,h1,h2,hz,q⟩:=h
  cases rx
  obtain ⟨t,rfl⟩:=ry
  obtain ⟨z,its,n,r,hl,e⟩:=I.lstM hH
  have hlen:its.toArray.size*k.toNat≤sizeLine:=by rw [List.size_toArray,← hl];exact hz
  have hcap:¬ its.toArray.size*k.toNat>(2 ^ 63 - 1) / 8:=by
    have:(sizeLine:Nat)≤(2 ^ 63 - 1) / 8:=by decide
    omega
  have hfit:¬ (!Builtin.List.listFitsIndex k)=true:=by
    rw [fitsIndex_both h1 h2]
    exact Bool.false_ne_true
  have hlong:¬ Builtin.List.listTooLong (its.toArray.size*k.toNat)=true:=by
    rw [notLongL hlen]
    exact Bool.false_ne_true
  have hnew:List.foldl (fun x1 x2=>x1++x2) #[] (List.replicate (if its.toArray.isEmpty=true then 0 else k.toNat) its.toArray)=(List.replicate k.toNat its).flatten.toArray:=by
    have f0:∀ m:Nat,List.foldl (fun x1 x2=>x1++x2) #[] (List.replicate m its.toArray)=(List.replicate m its).flatten.toArray:=fun m=>by
      have:=foldl_rep its m []
      rw [List.nil_append] at this
      exact this
    rw [f0]
    cases its with
    | nil=>simp
    | cons a r'=>rw [if_neg (by simp)]
  refine wpAny_binaryOp_repeat_ref (T:="list") (U:="int") (by decide) ⟨_,e,rfl⟩ (fun s'=>typeIs_int s' k t) noFill_list_mul F.fills_int_mul F.slot_int_rmul repeat_list F.slot_int_index.lookup
    (call_meets F.slot_int_rmul (typeIs_int s k t) F.entry_int_rmul (F.args_int_rmul_2 _ _) (int___rmul___int_list k t l its.toArray n)
      ⟨e,rfl,⟨_,e,rfl⟩,call_meets F.slot_list_mul ⟨_,e,rfl⟩ F.entry_list_mul (F.args_list_mul_2 _ _) (AutoListH.list___mul___list_int_3 l its.toArray n k t hfit hcap hlong) ⟨e,?_⟩⟩)
  rw [hnew]
  exact ⟨.ref _,_,I.lnew (t':=s.toks) (r.rep k.toNat) (by rw [len_rep,Nat.mul_comm];exact hz),rfl,q _ I.fresh⟩
end
section
variable {prog:Program} {w:World} {A:Around} {E:Value→Shared→Prop} {s:Shared}
end
section
variable {X:Cx}
end
end L2
namespace Att
open PySem PySem.W PySem.Calls PyProof.Rows
theorem ints_of_wellAll {P:Params} {h:Heap}:∀ (ns:List Int) (vs:List Value),WellAll P h vs (ns.map WData.int)→IntsAre vs ns:=by
  intro ns
  induction ns with
  | nil =>
    intro vs w
    rw [List.map_nil] at w
    cases w
    exact .nil
  | cons n ns ih =>
    intro vs w
    rw [List.map_cons] at w
    cases w with
    | cons a b =>
      cases a
      exact .cons _ _ (ih _ b)
theorem script_of {l:OpenLaw} {n:Nat} (hn:l.most=some n) {P:Params} {h:Heap} {args:List WData} {vals:List Value}
    (hpre:l.row.toRowW.claim.pre args=true) (hwl:WellAll P h vals args) :
    ∃ a vs ns,vals=[Value.ref a]∧args=[WData.list (ns.map WData.int)]∧h.get? a=some {cls:=.type "list",data:=.seq vs.toArray}∧IntsAre vs ns∧ns.length≤n:=by
  have hsh:WShape.hasAll [] args [.list .int]=true:=(pre_splitW hpre).1
  have hc:l.pre.holds [] {args:=args}=true:=(pre_splitW hpre).2
  obtain ⟨d,r,rfl,h1,h2⟩:=hasAllW_cons hsh
  obtain rfl:=hasAllW_nil h2
  obtain ⟨xs,rfl,h3⟩:=hasW_list h1
  obtain ⟨ns,rfl⟩:=items_int h3
  have hlen:ns.length≤n:=by
    unfold OpenLaw.pre at hc
    have h4:(WTm.not (.lt (.lit (.int (n:Int))) (.len (.arg 0)))).holds [] {args:=[.list (ns.map .int)]}=true:=by
      have h4:=(holds_andW hc).1
      rw [hn] at h4
      exact h4
    have h5:=condW_of h4 (w_not (w_lt w_lit (w_len_list (w_arg rfl))))
    rw [List.length_map] at h5
    refine Nat.le_of_not_lt fun q=>?_
    have q':(n:Int)<((ns.length:Nat):Int):=by omega
    first
      | (rw [decide_eq_true q'] at h5;exact absurd h5 (by decide))
      | (simp at h5;omega)
  cases hwl with
  | cons w1 w2 =>
    cases w2
    cases w1 with
    | list ho hall=>exact ⟨_,_,ns,rfl,rfl,ho,ints_of_wellAll ns _ hall,hlen⟩
theorem post_true (l:OpenLaw) (args:List WData):l.row.toRowW.claim.post args (.bool true) args=true :=
  postW_of (r:=l.row.toRowW) (X:=(true==true))
    (show WShape.has [] (.bool true) .bool=true by first | rfl | decide | simp [WShape.has,WShape.arms,WShape.armsAll])
    (show (WTm.eq .res (.lit (.bool true))).value [] {args:=args,res:=some (.bool true),after:=args}=some (.bool (true==true)) from w_eq_bool (w_res rfl) w_lit) rfl
theorem attach_call {l:OpenLaw} {n:Nat} {q:Program} {loose:List Str} {XP:(Str→Option Value)→Heap→Prop} {YP:World→Heap→Prop} {d:DefRec}
    (hn:l.most=some n) (hdf:d.params.defaults=[])
    (call:∀ (w:World) (s₀ s₁:Shared) (mg mb:Str→Option Value) (fa:Addr) (o:Obj) (pm cd doc:Value) (a:Addr) (vs:List Value) (ns:List Int),
      Ground q loose [] XP w s₀ mg mb s₁.heap→YP w s₁.heap→
      s₁.heap.get? fa=some o→o.data=.func (docDef d.name d.params d.body d.scope pm cd doc)→s₁.heap.CodeRec cd d.name→mg d.name=some (.ref fa)→
      s₁.heap.get? a=some {cls:=.type "list",data:=.seq vs.toArray}→IntsAre vs ns→ns.length≤n→s₁.gens=#[]→
      codeAny (model l.prog w) callerA (.call (.ref fa) ⟨[.ref a],[]⟩) (fun r s'=>r=.ok (.ret (.bool true))∧OldK s₁.heap s'.heap∧s'.os=s₁.os∧AllBare s'.gens) s₁) :
    WalkO q loose XP YP l.row.toRowW d [] (fun f vs=>PySem.call f vs):=by
  intro w s₀ s₁ mg mb G Y fa o pm cd doc dV kV ho hd hcd hD hmg hg args vals as hpre hlay hrd hwl hlo
  obtain rfl:dV=.none:=Dflts.none hD hdf
  obtain rfl:kV=.none:=Dflts.noKw hD
  obtain ⟨a,vs,ns,rfl,rfl,hobj,hints,hlen⟩:=script_of hn hpre hwl
  refine enter_call (codeAny_mono (call w s₀ s₁ mg mb fa o pm cd doc a vs ns G Y ho (fd_plain hd) hcd hmg hobj hints hlen hg) fun r s' hq=>?_)
  obtain ⟨rfl,h2,h3,h4⟩:=hq
  exact ⟨.inl ⟨.bool true,.bool true,[],rfl,fun _=>rfl,.bool true,post_true l _,fun _=>⟨List.Pairwise.nil,fun _ hm=>(nomatch hm)⟩⟩,h2,h3,h4⟩
section
variable {prog:Program} {w:World} {A:Around} {E:Value→Shared→Prop} {s:Shared} {K:Frag}
noncomputable def ledger (h:Heap) (L d:Addr):List (Addr×Obj):=(List.range h.objs.size).filterMap fun a=>if a=L∨a=d then none else (h.get? a).map fun o=>(a,o)
end
end Att
namespace L2
open PySem PySem.Spec PyProof.Rows
theorem vals_ints {vs:List Value} {ns:List Int} (h:IntsAre vs ns):Vals (ns.map V.int) vs:=by
  induction h with
  | nil=>exact .nil
  | cons n t _ ih=>exact .cons ⟨t,rfl⟩ ih
noncomputable def Only (H:Hp):Prop:=∀ b,H b=none∨∃ o xs,H b=some (.frz o (.lst xs))
theorem law_call {P:Program} {w:World} {K:PySem.W.Frag} {mg mb:Str→Option Value} {CX:CXT} {k:Nat} {fa a:Addr} {fd:FuncData} {x:Str} {sp:Sp} {s₁:Shared} {vs:List Value} {ns:List Int}
    (KX:K.In s₁.heap) (hns:s₁.heap.Ns mainGlobals mg) (hb:s₁.heap.Ns builtinsNs mb) (hbb:∀ x:Str,x≠"__name__"→mb x=bootBuiltins x) (hlim:s₁.heap.NoLimit) (hg:s₁.gens=#[])
    (ha:s₁.heap.get? a=some {cls:=.type "list",data:=.seq vs.toArray}) (hi:IntsAre vs ns) (hl:ns.length≤sizeLine) (hr:Room k callerA)
    (F:∀ base:Heap,K.In base→base.Ns mainGlobals mg→FnOk P w K mg base CX k fa fd [x] sp) (hbind:∀ (s:Shared) (u:Value),BindsTo s fd ⟨[u],[]⟩ [(x,u)])
    (hsp:∀ H:Hp,Only H→SqL K H a (ns.map V.int)→sp [.ref a] H (fun v _=>v=.bl true) fun _ _ _=>False)
    (hCX:∀ H e s',CX [] H s₁ (fun _ _ _=>False) e s'→False) :
    codeAny (model P w) callerA (.call (.ref fa) ⟨[.ref a],[]⟩) (fun r s'=>r=.ok (.ret (.bool true))∧OldK s₁.heap s'.heap∧s'.os=s₁.os∧AllBare s'.gens) s₁:=by
  have rv:=vals_ints hi
  have lenV:=hi.length
  -- from an abstract heap in which nothing but the script may be tracked
  have core:∀ H:Hp,Only H→SqL K H a (ns.map V.int)→HOk P w H s₁.heap→(∀ b,H b≠none→b=a)→(H a≠none→K.lookup a=none)→
      codeAny (model P w) callerA (.call (.ref fa) ⟨[.ref a],[]⟩) (fun r s'=>r=.ok (.ret (.bool true))∧OldK s₁.heap s'.heap∧s'.os=s₁.os∧AllBare s'.gens) s₁:=by
    intro H hO hS hok hA hK
    have base_of:∀ {b:Addr} {o:Obj},s₁.heap.get? b=some o→H b=none→(hidT s₁.heap H).get? b=some o:=fun e n=>hidT_get e n
    have noA:∀ {b:Addr} {o:Obj} {es:Array DictEntry} {ep:Nat},s₁.heap.get? b=some o→o.data=.dict es ep→H b=none:=fun {b o es ep} e d=>by
      cases q:H b with
      | none=>rfl
      | some u =>
        have e':b=a:=hA b (by rw [q];simp)
        subst e'
        rw [ha] at e;cases e
        have d':Data.seq vs.toArray _=Data.dict es ep:=d
        cases d'
    have nsK:∀ {b:Addr} {m:Str→Option Value},s₁.heap.Ns b m→(hidT s₁.heap H).Ns b m:=fun {b m} ⟨o,es,ep,e,d,r⟩=>⟨o,es,ep,base_of e (noA e d),d,r⟩
    have hKb:K.In (hidT s₁.heap H):=fun b o e=>base_of (KX b o e) (by
      cases q:H b with
      | none=>rfl
      | some u =>
        have e':b=a:=hA b (by rw [q];simp)
        subst e'
        rw [hK (by rw [q];simp)] at e;cases e)
    have hM:Mod K mg (hidT s₁.heap H):=⟨hKb,nsK hns,⟨mb,nsK hb,hbb⟩,let ⟨mc,h1,h2⟩:=hlim;⟨mc,nsK h1,h2⟩⟩
    have e0:Env0 P w K mg (hidT s₁.heap H) callerA [] s₁ H:=⟨rfl,hM,fun b o e=>of_hidT e,Nat.le_of_eq (hidT_size _ _),trivial,fun b hb=>absurd (show b∈([]:List Addr) from hb) (by simp),hok,.of_eq hg⟩
    refine codeAny_mono ((F _ hKb (nsK hns)).run callerA [] s₁ H ⟨[.ref a],[]⟩ [.ref a] [.ref a] _ _ hr e0 (hbind s₁ (.ref a)) (.cons rfl .nil) (hsp H hO hS)) fun r s' h=>?_
    cases r with
    | error e=>exact (hCX H e s' h).elim
    | ok fl =>
      cases fl with
      | next=>exact False.elim h
      | brk=>exact False.elim h
      | cont=>exact False.elim h
      | ret u =>
        obtain ⟨v,H',os,bare,un,hok',r',q⟩:=h
        have q':v=.bl true:=q
        subst q'
        obtain rfl:u=Value.bool true:=r'
        refine ⟨rfl,OldK.of_keep fun b o e=>?_,os,bare⟩
        cases q:H b with
        | none=>exact un.keep b o e q (by intro z;exact absurd (show b∈([]:List Addr) from z) (by simp)) (by simp)
        | some u =>
          rcases hO b with z | ⟨ob,xs,z⟩
          · rw [q] at z;cases z
          · have z2:=un.frzs b ob _ z
            obtain ⟨e1,_⟩:=hok b _ z
            obtain ⟨e2,_⟩:=hok' b _ z2
            rw [e] at e1;cases e1
            exact e2
  cases hk:K.lookup a with
  | some o =>
    -- the script is one of the module's own objects
    have e:=KX a o hk
    rw [ha] at e
    cases e
    refine core (fun _=>none) (fun _=>.inl rfl) (.inr ⟨_,vs.toArray,_,hk,rfl,rfl,rfl,by rw [List.size_toArray,lenV];exact hl,by simpa using rv⟩) (fun b u z=>by have z':(none:Option HO)=some u:=z;cases z') (fun b z=>absurd rfl z) fun z=>absurd rfl z
  | none =>
    refine core (fun b=>if b=a then some (.frz {cls:=.type "list",data:=.seq vs.toArray} (.lst (ns.map V.int))) else none) (fun b=>?_) (.inl (.inr ⟨{cls:=.type "list",data:=.seq vs.toArray},if_pos rfl⟩)) (fun b u z=>?_) (fun b z=>?_) fun _=>hk
    · by_cases hb:b=a
      · exact .inr ⟨_,_,if_pos hb⟩
      · exact .inl (if_neg hb)
    · by_cases hb:b=a
      · have z':=(if_pos hb).symm.trans z
        cases z'
        subst hb
        exact ⟨ha,by rw [List.length_map];exact hl,vs,_,rv,ha⟩
      · have z':=(if_neg hb).symm.trans z
        cases z'
    · by_cases hb:b=a
      · exact hb
      · exact absurd (if_neg hb) z
end L2
namespace L2
open PySem PySem.Spec PyProof.Rows
noncomputable abbrev KOf {K:PySem.W.Frag} {h:Heap} (_:K.In h):PySem.W.Frag:=K
theorem walk_of {l:PySem.W.OpenLaw} {n k:Nat} {q:Program} {loose:List Str} {XP:(Str→Option Value)→Heap→Prop} {YP:World→Heap→Prop} {d:DefRec} {K:Params→PySem.W.Frag} {CX:World→CXT} {sp:World→Sp} {x:Str}
    (hn:l.most=some n) (hn2:n≤sizeLine) (hdf:d.params.defaults=[]) (hr:Room k callerA)
    (hY:∀ (w:World) (h:Heap),YP w h→(K w.params).In h)
    (F:∀ (w:World) (mg:Str→Option Value) (fa:Addr) (h:Heap),(K w.params).In h→h.Ns mainGlobals mg→mg d.name=some (.ref fa)→
      ∃ fd:FuncData,(∀ (s:Shared) (u:Value),BindsTo s fd ⟨[u],[]⟩ [(x,u)])∧
        ∀ base:Heap,(K w.params).In base→base.Ns mainGlobals mg→FnOk l.prog w (K w.params) mg base (CX w) k fa fd [x] (sp w))
    (hsp:∀ (w:World) (H:Hp) (a:Addr) (ns:List Int),ns.length≤n→Only H→SqL (K w.params) H a (ns.map V.int)→sp w [.ref a] H (fun v _=>v=.bl true) fun _ _ _=>False)
    (hCX:∀ (w:World) (H:Hp) (s:Shared) (e:Value) (s':Shared),CX w [] H s (fun _ _ _=>False) e s'→False) :
    PySem.W.WalkO q loose XP YP l.row.toRowW d [] (fun f vs=>PySem.call f vs):=by
  refine Att.attach_call hn hdf fun w s₀ s₁ mg mb fa o pm cd doc a vs ns G Y ho hd hcd hmg hobj hints hlen hg=>?_
  have KX:=hY w _ Y
  obtain ⟨fd,hb,hF⟩:=F w mg fa _ KX G.T.g hmg
  exact law_call KX G.T.g G.T.b G.T.builtins G.T.nolimit hg hobj hints (Nat.le_trans hlen hn2) hr hF hb (fun H hO hS=>hsp w H a ns hlen hO hS) fun H e s'=>hCX w H s₁ e s'
end L2
/- THE LAST THEOREM (shape; LID, My.* are yours):
   My.Adr: a structure of the addresses that your layer names (classes, functions); My.Txt K t: a structure (Prop) of the equations over K;
   My.txt_mk : {K} {implicit addresses ..} (e1 : nsIn K mainGlobals "law" = some (some (.ref f))) (e2 : K.lookup f = some ⟨oc, od, .func (fnOf "law" "law" params body scope dV kV doc pm an cdv ct), sl⟩) (e3 : codeIn K cdv "law" = true) .. : ∃ t, My.Txt K t
set_option maxRecDepth 100000 in
set_option maxHeartbeats 0 in
theorem PySem.Challenge.cw_LID_holds : PySem.Challenge.rw_LID.Holds := by
  w_on; o_law; k_head; (case hw => w_witness2)
  k_fill
  refine L2.walk_of (l := PySem.Challenge.rw_LID) (n := 63) (k := 40) (x := "script") (CX := fun w => ..) (sp := fun _ => My.sp_law) rfl (by decide) rfl ⟨rfl, by decide, by decide⟩ (fun w h Y => PySem.W.kIn_of Y) ?F ?S ?C
  case F =>
    intro w mg fa h KX G hmg
    have T : ∃ t, My.Txt (L2.KOf KX) t := by
      dsimp only [L2.KOf]                          -- K must stand as «<heap const> w.params» for k_is
      refine' My.txt_mk ?e1 ?e2 ?e3 ..
      (case e1 => PySem.W.k_is)                    -- in the order: a name -> its address -> its object -> its parts
      (case e2 => PySem.W.k_is)
      ..
    obtain ⟨t, T⟩ := T
    have e0 := hmg.symm.trans (PySem.W.mg_of KX G T.law)
    cases e0                                       -- fa is the law's own address
    exact ⟨_, fun s u => .of_eq rfl, fun base kb nb => My.law_fn T kb nb⟩     -- if «.of_eq rfl» comes too early: refine' ⟨_, ?b, fun base kb nb => My.law_fn T kb nb⟩; exact fun s u => .of_eq rfl
  case S => exact fun w H a ns hl hO hS => ..
  case C => exact ..
(the tactic k_is has no namespace: write k_is) -/
namespace L2
open PySem PySem.Spec PyProof.Rows
noncomputable def inClass (s:Stmt) (j:Nat):Stmt:=match s with
  | .ClassDef _ _ _ body _ _ _ _ _ _ _=>body.getD j (.Pass ⟨0,0,0,0⟩)
  | _=>.Pass ⟨0,0,0,0⟩
noncomputable def defArgs (s:Stmt):Arguments:=match s with
  | .FunctionDef _ a _ _ _ _ _ _ _ _=>a
  | _=>{posonlyargs:=[],args:=[],vararg:=none,kwonlyargs:=[],kw_defaults:=[],kwarg:=none,defaults:=[]}
noncomputable def defBody (s:Stmt):List Stmt:=match s with
  | .FunctionDef _ _ b _ _ _ _ _ _ _=>b
  | _=>[]
noncomputable def defScope (s:Stmt):Scope:=match s with
  | .FunctionDef _ _ _ _ _ _ sc _ _ _=>sc
  | _=>{kind:=.function,names:=[],isGenerator:=false,isCoroutine:=false}
noncomputable abbrev CX0:CXT:=fun _ _ _ _ _ _=>False
noncomputable abbrev E0:XK:=fun _ _ _=>False
theorem pass0 {X:Cx}:Passes CX0 X E0:=fun _ _ _ _ _ _ _ h=>h.elim
structure Fun (K:PySem.W.Frag) (x qual:Str) (st:Stmt) (f:Addr) (fd:FuncData):Prop where
  ex:∃ (oc:Value) (od:Option Addr) (kV doc pm:Value) (an:Option Addr) (cdv ct:Value) (osl:Array (Option Value)),
    fd=PySem.W.fnOf x qual (defArgs st) (defBody st) (defScope st) .none kV doc pm an cdv ct∧K.lookup f=some ⟨oc,od,.func fd,osl⟩∧PySem.W.codeIn K cdv qual=true
  kp:PySem.W.keepIn K (.ref f)=true
section
variable {P:Program} {w:World} {K:PySem.W.Frag} {mg:Str→Option Value} {base:Heap}
theorem Fun.ok {x qual:Str} {st:Stmt} {f:Addr} {fd:FuncData} {N ps:List Str} {k:Nat} {sp:Sp} (F:Fun K x qual st f fd) (S:FnScope N ps (defScope st)) (len:∀ vs H Q E,sp vs H Q E→vs.length=ps.length)
    (hbody:∀ (cdv:Value) (A:Around) (outer:List Env) (s:Shared) (H:Hp) (vs:List V) (Q:VK) (E:XK),Room k (A.deeper (envOfC qual (defScope st) s.heap.objs.size f cdv))→sp vs H Q E→
      ∃ t,PSs (cxOf CX0 P w K mg base N qual (defScope st) f cdv A outer s H E).nox (defBody st) t∧t {nx:=fun _ H'=>Q .non H',rt:=Q} (start N vs) H):FnOk P w K mg base CX0 (k+1) f fd ps sp:=by
  obtain ⟨oc,od,kV,doc,pm,an,cdv,ct,osl,rfl,lk,hcd⟩:=F.ex
  refine fn_of lk hcd S len fun A outer s H vs Q E hr hsp=>?_
  obtain ⟨t,h,q⟩:=hbody cdv A outer s H vs Q E hr hsp
  exact ⟨t,h.nox,q⟩
theorem Fun.binds {x qual:Str} {st:Stmt} {f:Addr} {fd:FuncData} {ps:List Str} (F:Fun K x qual st f fd)
    (h:∀ (kV doc pm:Value) (an:Option Addr) (cdv ct:Value) (us:List Value),us.length=ps.length→bindArgs (PySem.W.fnOf x qual (defArgs st) (defBody st) (defScope st) .none kV doc pm an cdv ct) ⟨us,[]⟩=pure (ps.zip us)):Binds K fd ps []:=by
  obtain ⟨oc,od,kV,doc,pm,an,cdv,ct,osl,rfl,lk,hcd⟩:=F.ex
  exact .all (h kV doc pm an cdv ct)
theorem fun_mk {x qual:Str} {st:Stmt} {f:Addr} {oc:Value} {od an:Option Addr} {osl:Array (Option Value)} {kV doc pm cdv ct:Value} (l:K.lookup f=some ⟨oc,od,.func (PySem.W.fnOf x qual (defArgs st) (defBody st) (defScope st) .none kV doc pm an cdv ct),osl⟩)
    (c:PySem.W.codeIn K cdv qual=true) (k:PySem.W.keepIn K (.ref f)=true):Fun K x qual st f (PySem.W.fnOf x qual (defArgs st) (defBody st) (defScope st) .none kV doc pm an cdv ct):=⟨⟨oc,od,kV,doc,pm,an,cdv,ct,osl,rfl,l,c⟩,k⟩
end
theorem hu_of {A:Around} {k:Nat} (hr:Room k A):A.units+1<cLine:=Nat.lt_of_le_of_lt (Nat.add_le_add_left (by decide:1≤64) _) hr.units
section
variable {X:Cx}
theorem pv (i:Nat) {x:Str} {pos:Pos} (hN:X.N[i]?=some x:=by rfl) (hv:Vis X.env.scope x:=by first | exact Or.inl rfl | exact Or.inr (Or.inl rfl) | exact Or.inr (Or.inr rfl)) (hd:(x==("__debug__":Str))=false:=by decide)
    (hcd:(x==("__classdict__":Str))=false:=by decide):PE X (.Name x pos) (tVar i):=pe_var hN hv hd hcd
end
theorem iteF {A B:Prop} (h:B):if false=true then A else B:=by
  rw [if_neg Bool.false_ne_true]
  exact h
theorem iteT {A B:Prop} (h:A):if true=true then A else B:=by
  rw [if_pos rfl]
  exact h
theorem ite2 {c A B:Prop} [Decidable c] (h1:c→A) (h2:¬ c→B):if c then A else B:=by
  by_cases h:c
  · rw [if_pos h]
    exact h1 h
  · rw [if_neg h]
    exact h2 h
theorem iteNS {c A B:Prop} [Decidable c] (hc:c) (h:B):if (!decide c)=true then A else B:=by
  rw [decide_eq_true hc]
  exact iteF h
noncomputable def Same (H H':Hp):Prop:=∀ b o,H b=some o→H' b=some o
theorem Same.refl (H:Hp):Same H H:=fun _ _ h=>h
theorem Same.trans {H H1 H2:Hp} (a:Same H H1) (b:Same H1 H2):Same H H2:=fun c o h=>b c o (a c o h)
theorem Same.free {H H':Hp} (e:Same H H') {l:Addr} (h:H' l=Option.none):H l=Option.none:=by
  cases q:H l with
  | none=>rfl
  | some o =>
    rw [e l o q] at h
    cases h
theorem Same.seq {K:PySem.W.Frag} {H H':Hp} {a:Addr} {xs:List V} (e:Same H H') (h:SqL K H a xs):SqL K H' a xs:=by
  rcases h with (h | ⟨o,h⟩) | h
  · exact .inl (.inl (e _ _ h))
  · exact .inl (.inr ⟨o,e _ _ h⟩)
  · exact .inr h
end L2
set_option maxHeartbeats 4000000
namespace L2
open PySem PySem.Spec PyProof.Rows
theorem forIn_by {al be:Type} {l:List al} {f:al→be→Sem (ForInStep be)} (R:List al→be→Prop):∀ (pre rest:List al) (c:be),l=pre++rest→R pre c→
    (∀ pre x post c,l=pre++x::post→R pre c→∃ d,f x c=pure (.yield d)∧R (pre++[x]) d)→∃ d,forIn rest c f=pure d∧R l d
  | pre,[],c,e,h0,_=>⟨c,rfl,by rw [e,List.append_nil];exact h0⟩
  | pre,x::rest,c,e,h0,h=>by
    obtain ⟨d,e1,r1⟩:=h pre x rest c e h0
    obtain ⟨d',e2,r2⟩:=forIn_by R (pre++[x]) rest d (by rw [e];simp) r1 h
    exact ⟨d',by rw [List.forIn_cons,e1,pure_bind];exact e2,r2⟩
theorem clos_get {scope:Scope} {env:Env} (h:∀ y,(y,NameKind.free)∈scope.names→∃ c,env.cells.lookup y=some c) :
    ∃ cl,closureFor scope env=pure cl∧(∀ y c,cl.lookup y=some c→env.cells.lookup y=some c)∧∀ y,(y,NameKind.free)∈scope.names→∃ c,cl.lookup y=some c:=by
  have key:=forIn_by (l:=scope.names) (be:=List (Str×Addr)) (f:=fun x r=>if (x.2==NameKind.free)=true then do let a ← cellOf env x.1;pure (ForInStep.yield ((x.1,a)::r)) else pure (ForInStep.yield r))
    (fun pre cs=>(∀ y c,cs.lookup y=some c→env.cells.lookup y=some c)∧∀ y,(y,NameKind.free)∈pre→∃ c,cs.lookup y=some c) [] scope.names [] (by simp)
    ⟨fun y c e=>by simp at e,fun y hy=>by simp at hy⟩ (by
      rintro pre ⟨n,k⟩ post cs e ⟨r1,r2⟩
      by_cases hk:k=NameKind.free
      · subst hk
        obtain ⟨c,hc⟩:=h n (by rw [e];simp)
        refine ⟨(n,c)::cs,?_,fun y d q=>?_,fun y hy=>?_⟩
        · have hco:cellOf env n=pure c:=by unfold cellOf;rw [hc]
          simp only [beq_self_eq_true,if_true,hco,pure_bind]
        · by_cases hy:y=n
          · subst hy
            rw [List.lookup_cons,beq_self_eq_true] at q
            cases q;exact hc
          · have hb:(y==n)=false:=by simpa using hy
            rw [List.lookup_cons,hb] at q
            exact r1 y d q
        · by_cases hn:y=n
          · exact ⟨c,by rw [hn,List.lookup_cons,beq_self_eq_true]⟩
          · have hb:(y==n)=false:=by simpa using hn
            rw [List.lookup_cons,hb]
            refine r2 y ?_
            rcases List.mem_append.mp hy with z | z
            · exact z
            · simp at z;exact absurd z hn
      · refine ⟨cs,?_,r1,fun y hy=>r2 y ?_⟩
        · have hb:(k==NameKind.free)=false:=by simpa using hk
          simp only [hb,Bool.false_eq_true,if_false]
        · rcases List.mem_append.mp hy with z | z
          · exact z
          · simp at z;exact absurd z.2.symm hk)
  obtain ⟨cl,e,r⟩:=key
  refine ⟨cl,?_,r⟩
  have e':closureFor scope env=forIn scope.names ([]:List (Str×Addr)) (fun x r=>if (x.2==NameKind.free)=true then do let a ← cellOf env x.1;pure (ForInStep.yield ((x.1,a)::r)) else pure (ForInStep.yield r)):=by
    simp only [closureFor,bind_pure]
  rw [e',e]
noncomputable def Cx.cmp (X:Cx) (N:List Str) (scope:Scope) (cl:List (Str×Addr)) (C:Addr) (s:Shared) (H:Hp) (fp:List Addr):Cx where
  prog:=X.prog
  w:=X.w
  K:=X.K
  mg:=X.mg
  base:=X.base
  A:=X.A
  N:=N
  s₀:=s
  H₀:=H
  env:=compEnvC scope cl C X.env
  outer:=X.stack
  stack:=X.stack
  ex:=fp
  fn:=fun _=>false
  calm:=X.calm
  pn:=[]
  xe:=fun _ _=>False
theorem look_map {names:List (Str×NameKind)} {q:Str→NameKind→Bool} {y:Str}:(names.map fun (n,k)=>if q n k=true then (n,NameKind.cell) else (n,k)).lookup y=(names.lookup y).map fun k=>if q y k=true then NameKind.cell else k:=by
  induction names with
  | nil=>rfl
  | cons p r ih =>
    obtain ⟨n,k⟩:=p
    rw [List.map_cons]
    by_cases hy:y=n
    · subst hy
      by_cases hq:q y k=true
      · simp [List.lookup_cons,hq]
      · simp [List.lookup_cons,hq]
    · have hb:(y==n)=false:=by simpa using hy
      by_cases hq:q n k=true
      · simp only [hq,if_true,List.lookup_cons,hb];exact ih
      · simp only [hq,Bool.false_eq_true,if_false,List.lookup_cons,hb];exact ih
section
variable {X:Cx} {pins:List (Addr×Obj)} {σ:St} {H:Hp} {s:Shared} {fp:List Addr} {scope:Scope} {cl:List (Str×Addr)} {N:List Str} {C:Addr}
structure CmpScope (X:Cx) (N:List Str) (scope:Scope):Prop where
  kind:scope.kind=.function
  nocell:∀ y∈scope.names,y.2≠.cell
  loc:∀ y∈scope.names,y.2=.local→scope.names.lookup y.1=some .local
  fre:∀ y,scope.names.lookup y=some .free→X.env.kindOf y=some .cell
  fre2:∀ y,(y,NameKind.free)∈scope.names→X.env.kindOf y=some .cell
  nd:N.Nodup
  at0:∀ y,scope.names.lookup y=some .free→(y,NameKind.free)∈scope.names
theorem cmp_ok (S:CmpScope X N scope) (I:Inv X pins σ H s) (hf:∀ b∈fp,FpOk X pins H b) (ho:∀ b∈fp,∃ o,s.heap.get? b=some o) (hcl:∀ y c,cl.lookup y=some c→X.env.cells.lookup y=some c)
    (hcf:∀ y,(y,NameKind.free)∈scope.names→∃ c,cl.lookup y=some c) (hC:s.heap.objs.size≤C):(X.cmp N scope cl C s H fp).Ok where
  mod:=I.ok.mod
  kind:=S.kind
  glob:=I.ok.glob
  blt:=I.ok.blt
  above:=hC
  inj:=fun x y c h1 h2=>I.ok.inj x y c (hcl x c h1) (hcl y c h2)
  has:=fun y hy=>by
    have hy':(relabel scope X.env).names.lookup y=some .cell∨(relabel scope X.env).names.lookup y=some .free:=hy
    have e:(relabel scope X.env).names.lookup y=(scope.names.lookup y).map fun k=>if (k==.free&&X.env.scope.kind==.function&&X.env.kindOf y==some .cell)=true then NameKind.cell else k :=
      look_map (q:=fun n k=>k==.free&&X.env.scope.kind==.function&&X.env.kindOf n==some .cell)
    rw [e] at hy'
    cases q:scope.names.lookup y with
    | none=>rw [q] at hy';simp at hy'
    | some k =>
      by_cases hk:k=NameKind.free
      · subst hk
        exact hcf y (S.at0 y q)
      · exfalso
        have hb:(k==NameKind.free)=false:=by simpa using hk
        rw [q] at hy'
        simp only [Option.map_some,hb,Bool.false_and,Bool.false_eq_true,if_false,Option.some.injEq] at hy'
        rcases hy' with z | z
        · exact S.nocell _ (PySem.mem_of_lookup q) z
        · exact hk z
  cab:=fun y c h _=>nomatch h
  hd:=I.ok.hd
  frames:=I.ok.frames
  stk:=.inl rfl
  exf:=fun b hb=>by
    obtain ⟨o,e⟩:=ho b hb
    obtain ⟨_,_,_,_,f4,_⟩:=hf b hb
    exact ⟨Nat.ne_of_lt (Nat.lt_of_lt_of_le (Heap.lt_size e) hC),fun x c q=>f4 x c (hcl x c q)⟩
  bs:=I.bs
  bsz:=Nat.le_trans I.ok.bsz I.sz
  noex:=fun b o e hb=>by
    obtain ⟨_,_,_,f3,_,_⟩:=hf b hb
    rcases f3 with z | z
    · exact I.ok.noex b o e z
    · exact absurd (Nat.lt_of_lt_of_le (Heap.lt_size e) (Nat.le_trans I.ok.bsz z)) (Nat.lt_irrefl _)
  exfs:=fun b hb z=>by
    obtain ⟨_,f1,f2,_⟩:=hf b hb
    rcases List.mem_cons.mp (I.stkSub b z) with e | e
    · exact f1 e
    · exact f2 e
  funs:=I.stack
  frf:=I.stkFree
noncomputable def freeSt (k:Nat) (fr:List Nat) (σ:St):St:=List.replicate k none++fr.map fun i=>(σ[i]?).join
structure CmpFree (X:Cx) (N:List Str) (scope:Scope) (k:Nat) (fr:List Nat):Prop where
  len:N.length=k+fr.length
  at1:∀ (j i:Nat) (y:Str),fr[j]?=some i→N[k+j]?=some y→X.N[i]?=some y∧scope.names.lookup y=some .free
theorem cmp_start (S:CmpScope X N scope) {k:Nat} {fr:List Nat} (F:CmpFree X N scope k fr) (I:Inv X pins σ H s) (hf:∀ b∈fp,FpOk X pins H b) (ho:∀ b∈fp,∃ o,s.heap.get? b=some o)
    (hcl:∀ y c,cl.lookup y=some c→X.env.cells.lookup y=some c) (hcf:∀ y,(y,NameKind.free)∈scope.names→∃ c,cl.lookup y=some c) (hC:s.heap.objs.size≤C)
    {s1:Shared} {m:Str→Option Value} {D:Addr} {oD:Obj} (hos:s1.os=s.os) (hg:s1.gens=s.gens) (kp:∀ b o,s.heap.get? b=some o→s1.heap.get? b=some o) (hn:s1.heap.Ns C m)
    (hD:s1.heap.get? D=some oD) (hD0:s.heap.objs.size≤D) (hDC:D≠C) (hdc:∀ v,oD.data≠.cell v) :
    Inv (X.cmp N scope cl C s H fp) [(D,oD)] (freeSt k fr σ) H s1:=by
  have hfs:D∉frs X.stack:=fun z=>by
    obtain ⟨_,o,q,_⟩:=I.stack.mem z
    exact absurd (Nat.lt_of_lt_of_le (Heap.lt_size q) hD0) (Nat.lt_irrefl _)
  refine ⟨cmp_ok S I hf ho hcl hcf hC,hos,by rw [hg];exact I.bare,Un.kept kp,⟨m,hn,fun i x v e1 e2 e3=>?_⟩,fun y c e=>?_,I.hok.fresh hC,fun y c e=>I.freeC y c (hcl y c e),fun p hp=>?_,I.hok.kept kp,?_⟩
  · -- a name that has a value is a free one
    unfold freeSt at e2
    by_cases hi:i<k
    · rw [List.getElem?_append_left (by simpa using hi),List.getElem?_replicate] at e2
      split at e2 <;> cases e2
    · obtain ⟨j,rfl⟩:∃ j,i=k+j:=⟨i - k,by lia⟩
      rw [List.getElem?_append_right (by simp),List.length_replicate,Nat.add_sub_cancel_left,List.getElem?_map] at e2
      cases q:fr[j]? with
      | none=>rw [q] at e2;cases e2
      | some i' =>
        rw [q] at e2
        have e2':(σ[i']?).join=some v:=Option.some.inj e2
        obtain ⟨a1,a2⟩:=F.at1 j i' x q e1
        have hk:=S.fre x a2
        obtain ⟨m0,hn0,hl0⟩:=I.loc
        have hv:σ[i']?=some (some v):=by
          cases z:σ[i']? with
          | none=>rw [z] at e2';cases e2'
          | some w=>rw [z] at e2';rw [show w=some v from e2']
        obtain ⟨u,r,l⟩:=hl0 i' x v a1 hv (.inr (.inl hk))
        refine ⟨u,r,.inr ⟨.inl ?_,?_⟩⟩
        · show (relabel scope X.env).names.lookup x=some .cell
          have e:(relabel scope X.env).names.lookup x=(scope.names.lookup x).map fun k=>if (k==.free&&X.env.scope.kind==.function&&X.env.kindOf x==some .cell)=true then NameKind.cell else k :=
            look_map (q:=fun n k=>k==.free&&X.env.scope.kind==.function&&X.env.kindOf n==some .cell)
          rw [e,a2,hk,I.ok.kind]
          rfl
        · obtain ⟨c,hc⟩:=hcf x (S.at0 x a2)
          refine ⟨c,hc,?_⟩
          rcases l with ⟨z,_⟩ | ⟨_,c',hc',z⟩
          · rw [hk] at z;cases z
          · have ec:=hcl x c hc
            rw [hc'] at ec;cases ec
            obtain ⟨o,ho,hd⟩:=z
            exact ⟨o,kp _ _ ho,hd⟩
  · obtain ⟨v,o,q,d⟩:=I.cell y c (hcl y c e)
    exact ⟨v,o,kp _ _ q,d⟩
  · have hp':p=(D,oD):=by simpa [Cx.cmp] using hp
    subst hp'
    exact ⟨hD,I.hok.fresh hD0,hDC,hfs,hdc⟩
  · unfold freeSt
    show _=N.length
    rw [List.length_append,List.length_replicate,List.length_map,F.len]
noncomputable abbrev lstO (its:List Value) (n:Nat):Obj:={cls:=.type "list",data:=.seq its.toArray n}
theorem cmp_back {σ':St} {H':Hp} {s':Shared} {D:Addr} {its:List Value} {n:Nat} {ys:List V} (I:Inv X pins σ H s) (hf:∀ b∈fp,FpOk X pins H b) (J:Inv (X.cmp N scope cl C s H fp) [(D,lstO its n)] σ' H' s') (r:Vals ys its)
    (hz:ys.length≤sizeLine) (hD0:s.heap.objs.size≤D):H' D=none∧Inv X pins σ (upd H' D (.lst ys)) s':=by
  obtain ⟨e1,hn,_,_,_⟩:=J.pin (D,lstO its n) (by simp [Cx.cmp])
  have e1:s'.heap.get? D=some (lstO its n):=e1
  have hn:H' D=none:=hn
  have u:=J.base
  have neD:∀ b o,s.heap.get? b=some o→b≠D:=fun b o q=>Nat.ne_of_lt (Nat.lt_of_lt_of_le (Heap.lt_size q) hD0)
  have u':Un (frs X.stack) fp H (upd H' D (.lst ys)) s.heap s'.heap :=
    ⟨u.keep,u.slot,fun b o q z hx=>by rw [upd_ne (neD b o q)];exact u.free b o q z hx,u.there,fun b xs q=>by rw [upd_ne (ne_of_none (u.tups b xs q) hn)];exact u.tups b xs q,
      fun b o x q=>by rw [upd_ne (ne_of_none (u.frzs b o x q) hn)];exact u.frzs b o x q,fun b ps q=>by
        obtain ⟨more,z⟩:=u.tbls b ps q
        exact ⟨more,by rw [upd_ne (ne_of_none z hn)];exact z⟩⟩
  have hok:HOk X.prog X.w (upd H' D (.lst ys)) s'.heap:=fun b o q=>by
    by_cases hb:b=D
    · subst hb
      rw [upd_same] at q
      cases q
      exact ⟨hz,its,n,r,e1⟩
    · rw [upd_ne hb] at q
      exact (J.hok b o q).stay (fun c v _ z=>z) (fun c z=>by rw [upd_ne (ne_of_none z hn)];exact z) fun c xs z=>by rw [upd_ne (ne_of_none z hn)];exact z
  refine ⟨hn,?_⟩
  have os:=J.os
  have bare:=J.bare
  obtain ⟨hh,g,d,t,os'⟩:=s'
  obtain rfl:os'=s.os:=os
  exact I.call (h':=hh) (g':=g) (d':=d) (t':=t) (ch:=fp) u' hok bare fun b hb=>by
    obtain ⟨_,f1,_,f3,f4,f5⟩:=hf b hb
    exact ⟨f3,f1,f4,f5⟩
end
end L2
namespace L2
open PySem PySem.Spec PyProof.Rows
noncomputable def PF (X:Cx) (ifs:List Expr) (t:TT):Prop :=
  ∀ (pins:List (Addr×Obj)) (s:Shared) (σ:St) (H:Hp) (Q:Bool→Hp→Prop),Inv X pins σ H s→t σ H Q→
    wpAny (model X.prog X.w) X.A (forIn ifs true fun c r=>if r=true then do let ok ← isTrue c X.env (eval c X.env);pure (ForInStep.yield ok) else pure (ForInStep.yield r)) (TP X pins σ Q) X.xe s
noncomputable def tTrue:TT:=fun _ H Q=>Q true H
theorem pf_nil {X:Cx}:PF X [] tTrue:=fun _ _ _ H _ I h=>wpAny_tests_nil ⟨H,I,h⟩
theorem pf_one {X:Cx} {c:Expr} {tc:TT} (hc:PT X c tc):PF X [c] tc:=fun pins s σ H Q I h=>wpAny_tests_one (hc pins s σ H Q I h)
section
variable {prog:Program} {w:World} {A:Around}
theorem noE {al:Type} {t:Sem al} {Q:al→Shared→Prop} {E:Value→Shared→Prop} {s:Shared} (h:wpAny (model prog w) A t Q (fun _ _=>False) s):wpAny (model prog w) A t Q E s :=
  wpAny_mono h (fun _ _ x=>x) fun _ _ f=>f.elim
theorem cmp_loop {R:Result→Shared→Prop} {s:Shared} {elt tg iter:Expr} {ifs:List Expr} {scope:Scope} {pos:Pos} {it acc:Value} {env:Env} (I:Nat→Shared→Prop)
    (turn:∀ n s,I n s→wpAny (model prog w) A (pyNext it) (fun r s1=>(r=none∧R (.ok .next) s1)∨∃ v,r=some v∧
      wpAny (model prog w) A (letOwnedTupleGo tg it v) (fun _ s2=>wpAny (model prog w) A (assign tg env v) (fun _ s3 =>
        wpAny (model prog w) A (forIn ifs true fun c r=>if r=true then do let ok ← isTrue c env (eval c env);pure (ForInStep.yield ok) else pure (ForInStep.yield r)) (fun ok s4 =>
          if ok=true then wpAny (model prog w) A (eval elt env) (fun x s5 =>
            wpAny (model prog w) A (call (.builtin "list.append") [acc,x]) (fun _ s6=>∃ m,m<n∧I m s6) (fun _ _=>False) s5) (fun _ _=>False) s4
          else ∃ m,m<n∧I m s4) (fun _ _=>False) s3) (fun _ _=>False) s2) (fun _ _=>False) s1) (fun _ _=>False) s)
    (n:Nat) (h:I n s):codeAny (model prog w) A (.compLoop (.ListComp elt [⟨tg,iter,ifs,0⟩] scope pos) 0 it acc env) R s:=by
  refine codeAny_loop rfl I (fun n s hI=>?_) n h
  show wpAny _ A ((compTurn (.ListComp elt [⟨tg,iter,ifs,0⟩] scope pos) 0 it acc env).onRaise (fun x=>do noteFrame x env;theTreesLotGoes x)) _ _ s
  refine wpAny_noted ?_
  rw [compTurn_list]
  refine wpAny_bind (wpAny_standAt (wpAny_bind (noE (thn (turn n s hI) fun r s1 h1=>?_))))
  rcases h1 with ⟨rfl,h1⟩ | ⟨v,rfl,h1⟩
  · exact wpAny_pure h1
  · refine wpAny_bind (noE (thn h1 fun _ s2 h2=>wpAny_bind (noE (thn h2 fun _ s3 h3=>wpAny_bind (noE (thn h3 fun ok s4 h4=>?_))))))
    cases ok with
    | false=>exact wpAny_pure ⟨rfl,h4⟩
    | true=>exact wpAny_bind (wpAny_bind (noE (thn h4 fun x s5 h5=>wpAny_bind (noE (thn h5 fun _ s6 h6=>wpAny_pure (wpAny_pure ⟨rfl,h6⟩))))))
end
noncomputable def GKeeps (k:Nat) (g:TG):Prop:=∀ v σ H Q,g v σ H Q→g v σ H fun σ2 H2=>(σ2.length=σ.length∧∀ i,k≤i→σ2[i]?=σ[i]?)∧Q σ2 H2
theorem gk_name {k i:Nat} (h:i<k):GKeeps k (gName i):=fun v σ H Q q=>⟨⟨List.length_set,fun j hj=>List.getElem?_set_ne (by lia)⟩,q⟩
noncomputable def tComp (k:Nat) (fr:List Nat) (wi:TI) (g:TG) (tc:TT) (te:TE):TE:=fun σ H Q=>wi σ H fun J H1=>∃ W:Nat→Nat→List V→Hp→Prop,(∃ m,W 0 m [] H1)∧∀ i m ys H,W i m ys H→
  (J.stop i H∧∀ D,H D=none→Q (.ref D) (upd H D (.lst ys)))∨
  (J.go i H∧ys.length<sizeLine∧∃ Nx:List V→Hp→Prop,(∀ ys' H',Nx ys' H'→∃ m',m'<m∧W (i+1) m' ys' H')∧
    ∀ x H',J.yld i H x H'→g x (freeSt k fr σ) H' fun σ2 H2=>tc σ2 H2 fun b H3=>if b=true then te σ2 H3 fun y H4=>Nx (ys++[y]) H4 else Nx ys H3)
section
variable {X:Cx} {pins:List (Addr×Obj)} {σ:St} {tg elt iter:Expr} {ifs:List Expr} {scope:Scope} {pos:Pos} {N:List Str} {k:Nat} {fr:List Nat} {wi:TI} {g:TG} {tc:TT} {te:TE}
theorem cmp_block (S:CmpScope X N scope) (F:CmpFree X N scope k fr) (hc:X.calm=true)
    (hg:∀ cl C s H fp,PG (X.cmp N scope cl C s H fp) tg g) (hk:GKeeps k g) (hi:∀ cl C s H fp,PF (X.cmp N scope cl C s H fp) ifs tc) (he:∀ cl C s H fp,PE (X.cmp N scope cl C s H fp) elt te)
    {s2:Shared} {it:Addr} {fp:List Addr} {tn:Nat→Heap→Prop} {J:It} {H2:Hp} (I:Inv X pins σ H2 s2) (T:Turn X.prog X.w X.K tg J fp it tn) (st:tn 0 s2.heap) (f2:∀ b∈fp,FpOk X pins H2 b)
    {W:Nat→Nat→List V→Hp→Prop} {m0:Nat} (w0:W 0 m0 [] H2) {Fin:List V→Hp→Prop}
    (turn:∀ i m ys H,W i m ys H→(J.stop i H∧Fin ys H)∨
      (J.go i H∧ys.length<sizeLine∧∃ Nx:List V→Hp→Prop,(∀ ys' H',Nx ys' H'→∃ m',m'<m∧W (i+1) m' ys' H')∧
        ∀ x H',J.yld i H x H'→g x (freeSt k fr σ) H' fun σ2 H2=>tc σ2 H2 fun b H3=>if b=true then te σ2 H3 fun y H4=>Nx (ys++[y]) H4 else Nx ys H3))
    {cl:List (Str×Addr)} (hcl:∀ y c,cl.lookup y=some c→X.env.cells.lookup y=some c) (hcf:∀ y,(y,NameKind.free)∈scope.names→∃ c,cl.lookup y=some c)
    {RR:Value→Addr→Result→Shared→Prop} {E:Value→Shared→Prop}
    (hRR:∀ D C s' its n ys H' σ',s2.heap.objs.size≤D→s2.heap.objs.size≤C→D≠C→Inv (X.cmp N scope cl C s2 H2 fp) [(D,lstO its n)] σ' H' s'→Vals ys its→ys.length≤sizeLine→Fin ys H'→RR (.ref D) C (.ok .next) s') :
    wpAny (model X.prog X.w) X.A (newList []) (fun acc s3=>wpAny (model X.prog X.w) X.A (newFunctionEnv scope X.env.globals cl [] X.env.qual none .none (some X.env)) (fun cenv s4 =>
      codeAny (model X.prog X.w) X.A (.compStart (.ListComp elt [⟨tg,iter,ifs,0⟩] scope pos) 0 (.ref it) acc {cenv with scope:=relabel scope X.env}) (RR acc cenv.locals) s4) E s3) E s2:=by
  refine wpAny_newObj_type (wpAny_newFunctionEnv S.nocell (by intro y hy;simp at hy) (fun h1 hns sb=>?_) S.kind)
  dsimp only at hns sb⊢
  generalize hG:s2.heap.push {cls:=.type "list",dict:=none,data:=.seq ([]:List Value).toArray}=G at hns sb⊢
  have hC:G.objs.size=s2.heap.objs.size+1:=by rw [← hG,Heap.size_push]
  have hDC:s2.heap.objs.size≠G.objs.size:=by rw [hC];exact Nat.ne_of_lt (Nat.lt_succ_self _)
  have old:∀ b o,s2.heap.get? b=some o→h1.get? b=some o:=fun b o e =>
    sb.extBut b o (by rw [hC];exact Nat.ne_of_lt (Nat.lt_succ_of_lt (Heap.lt_size e))) (Heap.get?_push_of_some _ (hG▸Heap.get?_push_of_some _ e))
  have hacc:h1.get? s2.heap.objs.size=some (lstO [] 0):=sb.extBut _ _ hDC (Heap.get?_push_of_some _ (hG▸Heap.get?_push_size _ rfl))
  have hfo:∀ b∈fp,∃ o,s2.heap.get? b=some o:=fun b hb=>let ⟨o,e,_⟩:=T.obj 0 _ st b hb;⟨o,e⟩
  have ltD:∀ b∈fp,b≠s2.heap.objs.size:=fun b hb=>let ⟨o,e⟩:=hfo b hb;Nat.ne_of_lt (Heap.lt_size e)
  generalize hX:X.cmp N scope cl G.objs.size s2 H2 fp=X'
  have I0:Inv X' [(s2.heap.objs.size,lstO [] 0)] (freeSt k fr σ) H2 {s2 with heap:=h1,toks:=s2.toks+([]:List (Str×Value)).length}:=by
    rw [← hX]
    exact cmp_start S F I f2 hfo hcl hcf (by rw [hC];exact Nat.le_succ _) rfl rfl old hns hacc (Nat.le_refl _) hDC fun v z=>by cases z
  have eP:X'.prog=X.prog:=by rw [← hX];rfl
  have eW:X'.w=X.w:=by rw [← hX];rfl
  have eK:X'.K=X.K:=by rw [← hX];rfl
  have eA:X'.A=X.A:=by rw [← hX];rfl
  have eC:X'.calm=true:=by rw [← hX];exact hc
  have eE:X'.env=compEnvC scope cl G.objs.size X.env:=by rw [← hX];rfl
  have eX:X'.xe=fun _ _=>False:=by rw [← hX];rfl
  have eF:X'.ex=fp:=by rw [← hX];rfl
  have eS:X'.s₀=s2:=by rw [← hX];rfl
  have ePn:X'.pn=[]:=by rw [← hX];rfl
  have T':Turn X'.prog X'.w X'.K tg J fp it tn:=by rw [eP,eW,eK];exact T
  have hg':PG X' tg g:=by rw [← hX];exact hg _ _ _ _ _
  have hi':PF X' ifs tc:=by rw [← hX];exact hi _ _ _ _ _
  have he':PE X' elt te:=by rw [← hX];exact he _ _ _ _ _
  have stat:∀ {o:Obj} {H':Hp},(∀ b∈fp,H' b=none)→∀ b∈fp,FpOk X' [(s2.heap.objs.size,o)] H' b:=fun {o H'} hn b hb=>by
    have ok:=I0.ok
    obtain ⟨z1,z2⟩:=ok.exf b (by rw [eF];exact hb)
    refine ⟨hn b hb,z1,ok.exfs b (by rw [eF];exact hb),.inl (by rw [eF];exact hb),z2,fun p hp=>?_⟩
    rw [ePn] at hp
    have hp':p=(s2.heap.objs.size,o):=by simpa using hp
    rw [hp']
    exact fun z=>ltD b hb z.symm
  -- back to the block's first names
  have back:∀ {pl:List (Addr×Obj)} {σ6:St} {H6:Hp} {s6:Shared},Inv X' pl σ6 H6 s6→(σ6.length=(freeSt k fr σ).length∧∀ i,k≤i→σ6[i]?=(freeSt k fr σ)[i]?)→Inv X' pl (freeSt k fr σ) H6 s6:=fun {pl σ6 H6 s6} I6 ⟨l1,l2⟩ =>
    I6.weak l1.symm fun i v e=>by
      by_cases hik:i<k
      · unfold freeSt at e
        rw [List.getElem?_append_left (by simpa using hik),List.getElem?_replicate] at e
        split at e <;> cases e
      · rw [l2 i (by lia)];exact e
  have loop:codeAny (model X.prog X.w) X.A (.compLoop (.ListComp elt [⟨tg,iter,ifs,0⟩] scope pos) 0 (.ref it) (.ref s2.heap.objs.size) (compEnvC scope cl G.objs.size X.env))
      (RR (.ref s2.heap.objs.size) G.objs.size) {s2 with heap:=h1,toks:=s2.toks+([]:List (Str×Value)).length}:=by
    rw [← eP,← eW,← eA,← eE]
    refine cmp_loop (fun n s'=>∃ i ys its nn H',Inv X' [(s2.heap.objs.size,lstO its nn)] (freeSt k fr σ) H' s'∧Vals ys its∧ys.length≤sizeLine∧tn i s'.heap∧(∀ b∈fp,H' b=none)∧W i n ys H') ?_ m0
      ⟨0,[],[],0,H2,I0,.nil,Nat.zero_le _,T.keep _ _ _ st fun b _ o e=>old b o e,fun b hb=>(f2 b hb).1,w0⟩
    rintro n s' ⟨i,ys,its,nn,H',I',rv,hz,st',fr',w'⟩
    rcases turn i n ys H' w' with ⟨stop,fin⟩ | ⟨go,hlt,Nx,hN,step⟩
    · refine thn (T'.done X' rfl rfl rfl eC i _ s' _ H' _ I' (stat fr') st' stop) fun r s1 ⟨hr,I1⟩=>.inl ⟨hr,?_⟩
      rw [← hX] at I1
      exact hRR _ _ s1 its nn ys H' _ (Nat.le_refl _) (by rw [hC];exact Nat.le_succ _) hDC I1 rv hz fin
    · refine thn (T'.item X' rfl rfl rfl eC i _ s' _ H' _ I' (stat fr') st' go) fun r s1 ⟨u,hr,h4⟩=>.inr ⟨u,hr,thn h4 fun _ s5 ⟨x,H5,I5,r5,y5,st5,fr5⟩=>?_⟩
      have I5':=I5.pinned (stat fr5) (T.obj _ _ st5)
      have hgx:=hg' _ s5 _ H5 x u _ I5' r5 (hk _ _ _ _ (step x H5 y5))
      rw [eX] at hgx
      refine thn hgx fun _ s6 ⟨σ6,H6,I6,l6,q6⟩=>?_
      have hix:=hi' _ s6 σ6 H6 _ I6 q6
      rw [eX] at hix
      have pinD:∀ {σ7:St} {H7:Hp} {s7:Shared},Inv X' ([(s2.heap.objs.size,lstO its nn)]++pinsAt fp s5.heap) σ7 H7 s7→s7.heap.get? s2.heap.objs.size=some (lstO its nn)∧H7 s2.heap.objs.size=none∧s2.heap.objs.size≠X'.env.locals:=fun I7=>by
        obtain ⟨z1,z2,z3,_⟩:=I7.pin (s2.heap.objs.size,lstO its nn) (List.mem_append_right _ (List.mem_append_left _ (by simp)))
        exact ⟨z1,z2,z3⟩
      have iter2:∀ {σ7:St} {H7:Hp} {s7:Shared},Inv X' ([(s2.heap.objs.size,lstO its nn)]++pinsAt fp s5.heap) σ7 H7 s7→tn (i+1) s7.heap∧∀ b∈fp,H7 b=none:=fun {σ7 H7 s7} I7 =>
        ⟨T.keep _ _ _ st5 fun b hb o e=>(I7.pin (b,o) (List.mem_append_right _ (List.mem_append_right _ (mem_pinsAt hb e)))).1,fun b hb=>by
          obtain ⟨o,e,d⟩:=T.obj _ _ st5 b hb
          exact (I7.pin (b,o) (List.mem_append_right _ (List.mem_append_right _ (mem_pinsAt hb e)))).2.1⟩
      refine thn hix fun ok s7 ⟨H7,I7,q7⟩=>?_
      cases ok with
      | false =>
        obtain ⟨m',hm,w7⟩:=hN _ _ (show Nx ys H7 from q7)
        obtain ⟨a1,a2⟩:=iter2 I7
        exact ⟨m',hm,i+1,ys,its,nn,H7,back I7.unpinned l6,rv,hz,a1,a2,w7⟩
      | true =>
        have hex:=he' _ s7 σ6 H7 _ I7 (show te σ6 H7 _ from q7)
        rw [eX] at hex
        refine thn hex fun v s8 ⟨y,H8,I8,r8,q8⟩=>?_
        obtain ⟨z1,z2,z3⟩:=pinD I8
        obtain ⟨a1,a2⟩:=iter2 I8
        obtain ⟨m',hm,w8⟩:=hN _ _ q8
        have hl:=rv.length
        refine append_at (hsz:=by show its.toArray.size≤sizeLine;rw [List.size_toArray];lia) z1 fun h9 sb9 hD9=>?_
        have I8':Inv X' (pinsAt fp s5.heap) (freeSt k fr σ) H8 s8:=(back I8 l6).pins_of fun p hp=>I8.pin p (List.mem_append_right _ (List.mem_append_right _ hp))
        have I9:Inv X' (pinsAt fp s5.heap) (freeSt k fr σ) H8 {s8 with heap:=h9}:=I8'.turned (t':=s8.toks) (it:=s2.heap.objs.size) (fun b o hb e=>(sb9.2 b hb).trans e) z2 z3 (.inr (by rw [eS];exact Nat.le_refl _))
          (fun y c e z=>by
            obtain ⟨v',q⟩:=I0.cell y c e
            have hcl':cl.lookup y=some c:=by rw [eE] at e;exact e
            obtain ⟨v2,q2⟩:=I.cell y c (hcl y c hcl')
            rw [z] at q2
            exact absurd q2.lt (Nat.lt_irrefl _))
          (fun p hp z=>by
            rw [ePn] at hp
            exact ltD p.1 (of_pinsAt hp).1 z)
        have I9':Inv X' [(s2.heap.objs.size,lstO (its++[v]) (nn+1))] (freeSt k fr σ) H8 {s8 with heap:=h9}:=I9.pins_of fun p hp=>by
          have hp':p=(s2.heap.objs.size,lstO (its++[v]) (nn+1)):=by simpa using hp
          rw [hp']
          refine ⟨?_,z2,z3,?_,fun v z=>by cases z⟩
          · show h9.get? _=_
            rw [hD9]
            simp [lstO]
          · exact (I8.pin (s2.heap.objs.size,lstO its nn) (List.mem_append_right _ (List.mem_append_left _ (by simp)))).2.2.2.1
        refine ⟨m',hm,i+1,ys++[y],its++[v],nn+1,H8,I9',rv.append (.cons r8 .nil),by rw [List.length_append];simp;lia,?_,a2,w8⟩
        exact T.keep _ _ _ a1 fun b hb o e=>(sb9.2 b (ltD b hb)).trans e
  exact codeAny_compStart_list loop (T.self _ 0 _ _ _ (T.keep _ _ _ st fun b _ o e=>old b o e) loop)
theorem cmp_off {s2 s':Shared} {fp:List Addr} {cl:List (Str×Addr)} {H2 H':Hp} {σ':St} {D C:Addr} {o:Obj} {u:HO} {h':Heap} {σ0:St} (I:Inv X pins σ H2 s2) (hC:s2.heap.objs.size≤C) (hDC:D≠C)
    (J:Inv (X.cmp N scope cl C s2 H2 fp) [(D,o)] σ' H' s') {s9:Shared} (I':Inv X pins σ0 (upd H' D u) s9) (sb:Heap.SameBut C s9.heap h'):Inv X pins σ0 (upd H' D u) {s9 with heap:=h'}:=by
  refine I'.turned (t':=s9.toks) (it:=C) (fun b o hb e=>(sb.2 b hb).trans e) (by rw [upd_ne (Ne.symm hDC)];exact J.free) (Nat.ne_of_gt (Nat.lt_of_lt_of_le I.lt hC)) (.inr (Nat.le_trans I.sz hC)) (fun y c e z=>?_) fun p hp z=>?_
  · obtain ⟨v,q⟩:=I.cell y c e
    exact absurd (Nat.lt_of_lt_of_le q.lt (by rw [z];exact hC)) (Nat.lt_irrefl _)
  · exact absurd (Nat.lt_of_lt_of_le (Heap.lt_size (I.pin p hp).1) (by rw [z];exact hC)) (Nat.lt_irrefl _)
theorem pe_comp (S:CmpScope X N scope) (F:CmpFree X N scope k fr) (hc:X.calm=true) (hit:PI X tg iter wi)
    (hg:∀ cl C s H fp,PG (X.cmp N scope cl C s H fp) tg g) (hk:GKeeps k g) (hi:∀ cl C s H fp,PF (X.cmp N scope cl C s H fp) ifs tc) (he:∀ cl C s H fp,PE (X.cmp N scope cl C s H fp) elt te)
    (hs:∀ x,foldedSetIterable iter X.env x=pure x:=by intro _;rfl):PE X (.ListComp elt [⟨tg,iter,ifs,0⟩] scope pos) (tComp k fr wi g tc te):=by
  intro pins s σ H Q I h
  rw [eval_ListComp]
  obtain ⟨cl,ecl,hcl,hcf⟩:=clos_get (scope:=scope) (env:=X.env) fun y hy=>I.ok.has y (.inl (S.fre2 y hy))
  refine wpAny_comprehension_free (use:=none) rfl hs ecl S.kind S.loc (thn (hit pins s σ H _ I h) fun v s1 h1=>thn h1 fun itv s2 h2=>?_)
  obtain ⟨it,fp,tn,J,H2,e,I2,T,st2,f2,W,⟨m0,w0⟩,turn⟩:=h2
  subst e
  refine cmp_block S F hc hg hk hi he I2 T st2 f2 w0 (Fin:=fun ys H'=>∀ D,H' D=none→Q (.ref D) (upd H' D (.lst ys))) turn hcl hcf (RR:=fun acc C=>compPost (model X.prog X.w) X.A X.xe none (EP X pins σ Q) acc C) ?_
  intro D C s' its n ys H' σ' hD hC hDC J' rv hz fin
  obtain ⟨hn,I'⟩:=cmp_back I2 f2 J' rv hz hD
  obtain ⟨m,hm,_⟩:=J'.loc
  exact ⟨m,hm,fun h' sb=>⟨.ref D,_,cmp_off I2 hC hDC J' I' sb,rfl,fin D hn⟩⟩
theorem ps_comp {i:Nat} {y:Str} {py spos:Pos} (hN:X.N.Nodup) (hi':X.N[i]?=some y) (hx:Loc X.env.scope y) (S:CmpScope X N scope) (F:CmpFree X N scope k fr) (hc:X.calm=true) (hit:PI X tg iter wi)
    (hg:∀ cl C s H fp,PG (X.cmp N scope cl C s H fp) tg g) (hk:GKeeps k g) (hi:∀ cl C s H fp,PF (X.cmp N scope cl C s H fp) ifs tc) (he:∀ cl C s H fp,PE (X.cmp N scope cl C s H fp) elt te)
    (hsw:swapsWith (.ListComp elt [⟨tg,iter,ifs,0⟩] scope pos) (some (.Name y py)) spos.line X.env=pure true)
    (hs:∀ x,foldedSetIterable iter X.env x=pure x:=by intro _;rfl) (hf:X.fn y=true∨X.env.scope.names.lookup y=some .local:=by first | exact .inl rfl | exact .inr rfl | assumption) :
    PS X (.Assign [.Name y py] (.ListComp elt [⟨tg,iter,ifs,0⟩] scope pos) spos) (tAsg (tComp k fr wi g tc te) (gName i)):=by
  intro pins s σ H D0 I h
  obtain ⟨cl,ecl,hcl,hcf⟩:=clos_get (scope:=scope) (env:=X.env) fun y hy=>I.ok.has y (.inl (S.fre2 y hy))
  rw [exec_Assign_Name_used _ _ _ _ hsw]
  refine wpAny_bind (wpAny_standAt (wpAny_bind ?_))
  show wpAny _ X.A (do let _ ← comprehension (.ListComp elt [⟨tg,iter,ifs,0⟩] scope pos) scope X.env _ (newList []) false (eval iter X.env) (some (assign (.Name y py) X.env))) _ _ s
  refine wpAny_bind (wpAny_mono (wpAny_comprehension_free (use:=some (assign (.Name y py) X.env)) (Q:=fun _ s'=>SP X pins D0 .next s') rfl hs ecl S.kind S.loc
    (thn (hit pins s σ H _ I h) fun v s1 h1=>thn h1 fun itv s2 h2=>?_)) (fun _ s' hq=>wpAny_pure (wpAny_pure hq)) fun _ _ e=>e)
  obtain ⟨it,fp,tn,J,H2,e,I2,T,st2,f2,W,⟨m0,w0⟩,turn⟩:=h2
  subst e
  refine cmp_block S F hc hg hk hi he I2 T st2 f2 w0 (Fin:=fun ys H'=>∀ D,H' D=none→D0.nx (σ.set i (some (.ref D))) (upd H' D (.lst ys))) turn hcl hcf
    (RR:=fun acc C=>compPost (model X.prog X.w) X.A X.xe (some (assign (.Name y py) X.env)) (fun _ s'=>SP X pins D0 .next s') acc C) ?_
  intro D C s' its n ys H' σ' hD hC hDC J' rv hz fin
  obtain ⟨hn,I'⟩:=cmp_back I2 f2 J' rv hz hD
  obtain ⟨m,hm,_⟩:=J'.loc
  show wpAny _ _ (assign (.Name y py) X.env (.ref D)) _ _ s'
  refine wpAny_assign_Name (store_ok2 I' hN hi' hx (v:=.ref D) rfl (fun s9 I9 ⟨a,sba,ha⟩=>?_) hf)
  have hCa:C≠a:=by
    rcases ha with z | z
    · rw [z];exact Nat.ne_of_gt (Nat.lt_of_lt_of_le I2.lt hC)
    · obtain ⟨v,q⟩:=I2.cell y a z
      exact fun z=>absurd (Nat.lt_of_lt_of_le q.lt (by rw [← z];exact hC)) (Nat.lt_irrefl _)
  exact ⟨m,hm.sameBut sba hCa,fun h' sb=>⟨_,_,cmp_off I2 hC hDC J' I9 sb,fin D hn⟩⟩
end
noncomputable def cmpOk (sc scope:Scope) (NX N:List Str) (k:Nat) (fr:List Nat):Bool :=
  scope.names.all (fun p=>p.2 != .cell)&&(scope.names.all (fun p=>p.2 != .local || scope.names.lookup p.1==some .local)&&(scope.names.all (fun p=>p.2 != .free || sc.names.lookup p.1==some .cell) &&
    (decide N.Nodup&&(N.length==k+fr.length&&(fr.zip (N.drop k)).all fun q=>NX[q.1]?==some q.2&&scope.names.lookup q.2==some .free))))
theorem cmpS {X:Cx} {sc scope:Scope} {NX N:List Str} {k:Nat} {fr:List Nat} (hX:X.env.scope=sc) (hk:scope.kind=.function) (h:cmpOk sc scope NX N k fr=true):CmpScope X N scope:=by
  unfold cmpOk at h
  simp only [Bool.and_eq_true,List.all_eq_true,decide_eq_true_eq] at h
  obtain ⟨h1,h2,h3,h4,h5,h6⟩:=h
  have f2:∀ y,(y,NameKind.free)∈scope.names→X.env.kindOf y=some .cell:=fun y hy=>by
    have:=h3 _ hy
    show X.env.scope.names.lookup y=some .cell
    rw [hX]
    simpa using this
  refine ⟨hk,fun y hy=>by simpa using h1 y hy,fun y hy e=>?_,fun y e=>f2 y (PySem.mem_of_lookup e),f2,h4,fun y e=>PySem.mem_of_lookup e⟩
  have:=h2 y hy
  rw [e] at this
  simpa using this
theorem cmpF {X:Cx} {sc scope:Scope} {NX N:List Str} {k:Nat} {fr:List Nat} (hN:X.N=NX) (h:cmpOk sc scope NX N k fr=true):CmpFree X N scope k fr:=by
  unfold cmpOk at h
  simp only [Bool.and_eq_true,List.all_eq_true,decide_eq_true_eq] at h
  obtain ⟨h1,h2,h3,h4,h5,h6⟩:=h
  refine ⟨by simpa using h5,fun j i y e1 e2=>?_⟩
  have hm:(i,y)∈fr.zip (N.drop k):=by
    refine List.mem_of_getElem? (i:=j) ?_
    rw [List.getElem?_zip_eq_some]
    exact ⟨e1,by rw [List.getElem?_drop];exact e2⟩
  have:=h6 _ hm
  rw [hN]
  simpa using this
section
variable {X:Cx} {elt iter:Expr} {ifs:List Expr} {scope:Scope} {pos px:Pos} {wi:TI} {tc:TT} {te:TE} {x:Str}
theorem cmp_nd {sc scope:Scope} {NX N:List Str} {k:Nat} {fr:List Nat} (h:cmpOk sc scope NX N k fr=true):N.Nodup:=by
  unfold cmpOk at h
  simp only [Bool.and_eq_true,decide_eq_true_eq] at h
  exact h.2.2.2.1
theorem pe_cmp1 (sc:Scope) (NX:List Str) (fs:List Str) (fr:List Nat) (hc:X.calm=true) (hit:PI X (.Name x px) iter wi) (hi:∀ cl C s H fp,PF (X.cmp (x::fs) scope cl C s H fp) ifs tc) (he:∀ cl C s H fp,PE (X.cmp (x::fs) scope cl C s H fp) elt te)
    (ok:cmpOk sc scope NX (x::fs) 1 fr=true) (hX:X.env.scope=sc:=by rfl) (hN:X.N=NX:=by rfl) (hk:scope.kind=.function:=by rfl) (hx:scope.names.lookup x=some .local:=by rfl)
    (hs:∀ x,foldedSetIterable iter X.env x=pure x:=by intro _;rfl):PE X (.ListComp elt [⟨.Name x px,iter,ifs,0⟩] scope pos) (tComp 1 fr wi (gName 0) tc te) :=
  pe_comp (cmpS hX hk ok) (cmpF hN ok) hc hit (fun cl C s H fp=>pg_name (i:=0) (cmp_nd ok) rfl (Or.inl (lookup_relabel_local hx)) (.inr (lookup_relabel_local hx))) (gk_name (by decide)) hi he hs
theorem ps_cmp1 (sc:Scope) (NX:List Str) (fs:List Str) (fr:List Nat) {i:Nat} {y:Str} {py spos:Pos} (hNd:X.N.Nodup) (hi':X.N[i]?=some y) (hy:Loc X.env.scope y) (hc:X.calm=true) (hit:PI X (.Name x px) iter wi)
    (hi:∀ cl C s H fp,PF (X.cmp (x::fs) scope cl C s H fp) ifs tc) (he:∀ cl C s H fp,PE (X.cmp (x::fs) scope cl C s H fp) elt te)
    (ok:cmpOk sc scope NX (x::fs) 1 fr=true) (hsw:swapsWith (.ListComp elt [⟨.Name x px,iter,ifs,0⟩] scope pos) (some (.Name y py)) spos.line X.env=pure true)
    (hX:X.env.scope=sc:=by rfl) (hN:X.N=NX:=by rfl) (hk:scope.kind=.function:=by rfl) (hx:scope.names.lookup x=some .local:=by rfl)
    (hs:∀ x,foldedSetIterable iter X.env x=pure x:=by intro _;rfl) (hf:X.fn y=true∨X.env.scope.names.lookup y=some .local:=by first | exact .inl rfl | exact .inr rfl | assumption) :
    PS X (.Assign [.Name y py] (.ListComp elt [⟨.Name x px,iter,ifs,0⟩] scope pos) spos) (tAsg (tComp 1 fr wi (gName 0) tc te) (gName i)) :=
  ps_comp hNd hi' hy (cmpS hX hk ok) (cmpF hN ok) hc hit (fun cl C s H fp=>pg_name (i:=0) (cmp_nd ok) rfl (Or.inl (lookup_relabel_local hx)) (.inr (lookup_relabel_local hx))) (gk_name (by decide)) hi he hsw hs hf
end
theorem comp_range {lo:Int} {n:Nat} {G:V→Hp→(List V→Hp→Prop)→List V→Prop} {Fin:List V→Hp→Prop} {H:Hp} (Pv:Nat→List V→Hp→Prop) (h0:Pv 0 [] H)
    (hs:∀ i ys H,i<n→Pv i ys H→ys.length<sizeLine∧G (.int (lo+i)) H (Pv (i+1)) ys) (hd:∀ ys H,Pv n ys H→Fin ys H) :
    ∃ W:Nat→Nat→List V→Hp→Prop,(∃ m,W 0 m [] H)∧∀ i m ys H,W i m ys H→
      ((Itr lo n).stop i H∧Fin ys H)∨((Itr lo n).go i H∧ys.length<sizeLine∧∃ Nx:List V→Hp→Prop,(∀ ys' H',Nx ys' H'→∃ m',m'<m∧W (i+1) m' ys' H')∧∀ x H',(Itr lo n).yld i H x H'→G x H' Nx ys):=by
  refine ⟨fun i m ys H=>m=n - i∧i≤n∧Pv i ys H,⟨n,by simp,Nat.zero_le _,h0⟩,?_⟩
  rintro i m ys H ⟨rfl,hi,p⟩
  by_cases hlt:i<n
  · obtain ⟨a1,a2⟩:=hs i ys H hlt p
    refine .inr ⟨hlt,a1,Pv (i+1),fun ys' H' p'=>⟨n - (i+1),by lia,rfl,hlt,p'⟩,fun x H' y=>?_⟩
    obtain ⟨e,y⟩:=y
    subst e y
    exact a2
  · have e:i=n:=by lia
    subst e
    exact .inl ⟨Nat.le_refl _,hd ys H p⟩
theorem comp_list {K:PySem.W.Frag} {a:Addr} {xs:List V} {G:V→Hp→(List V→Hp→Prop)→List V→Prop} {Fin:List V→Hp→Prop} {H:Hp} (Pv:Nat→List V→Hp→Prop) (h0:Pv 0 [] H) (hl:∀ i ys H,i≤xs.length→Pv i ys H→SqL K H a xs)
    (hs:∀ i x ys H,xs[i]?=some x→Pv i ys H→ys.length<sizeLine∧G x H (Pv (i+1)) ys) (hd:∀ ys H,Pv xs.length ys H→Fin ys H) :
    ∃ W:Nat→Nat→List V→Hp→Prop,(∃ m,W 0 m [] H)∧∀ i m ys H,W i m ys H→
      ((Itl K a).stop i H∧Fin ys H)∨((Itl K a).go i H∧ys.length<sizeLine∧∃ Nx:List V→Hp→Prop,(∀ ys' H',Nx ys' H'→∃ m',m'<m∧W (i+1) m' ys' H')∧∀ x H',(Itl K a).yld i H x H'→G x H' Nx ys):=by
  refine ⟨fun i m ys H=>m=xs.length - i∧i≤xs.length∧Pv i ys H,⟨xs.length,by simp,Nat.zero_le _,h0⟩,?_⟩
  rintro i m ys H ⟨rfl,hi,p⟩
  have q:=hl i ys H hi p
  by_cases hlt:i<xs.length
  · obtain ⟨a1,a2⟩:=hs i xs[i] ys H (by simp [hlt]) p
    refine .inr ⟨⟨xs,xs[i],q,by simp [hlt]⟩,a1,Pv (i+1),fun ys' H' p'=>⟨xs.length - (i+1),by lia,rfl,hlt,p'⟩,fun x H' y=>?_⟩
    obtain ⟨e,y⟩:=y
    subst e
    have hx:=y xs q
    rw [show xs[i]?=some xs[i] by simp [hlt]] at hx
    cases hx
    exact a2
  · have e:i=xs.length:=by lia
    subst e
    exact .inl ⟨⟨xs,q,Nat.le_refl _⟩,hd ys H p⟩
end L2
namespace L2
open PySem PySem.Spec PyProof.Rows
section
variable {X:Cx}
theorem call_isi:CallR X (.builtin "isinstance") (fun xs H Q=>∃ x t c b,xs=[x,.ty c]∧TyOf X.K H x t∧PySem.W.kitOne X.K t (.type c)=some b∧Q (.bl b) H):=by
  intro pins s σ H xs us Q I r h
  obtain ⟨x,t,c,b,rfl,ty,e,q⟩:=h
  obtain ⟨u,v,rfl,rx,ry⟩:=vals2 r
  cases ry
  exact isinst_ok I rx ty e fun tk=>⟨.bl b,H,I.tok tk,rfl,q⟩
theorem seen {pins:List (Addr×Obj)} {σ:St} {H:Hp} {s:Shared} {l:Addr} {h':Heap} {tk:Nat} (I:Inv X pins σ H s) (hk:∀ b o,b∉[s.heap.objs.size]→(s.heap.push {cls:=.type "list_iterator",data:=.fields #[.ref l,.int 0 0]}).get? b=some o→h'.get? b=some o) :
    Inv X pins σ H {s with heap:=h',toks:=tk}:=I.kept (old_kept hk)
theorem all_range {bs:List Bool}:((List.range bs.length).all fun i=>(bs[i]?).getD true)=bs.all id:=by
  induction bs with
  | nil=>rfl
  | cons b r ih =>
    rw [List.length_cons,List.range_succ_eq_map,List.all_cons,List.all_map,List.all_cons]
    congr 1
theorem call_all (hc:X.calm=true):CallR X (.builtin "all") (fun xs H Q=>∃ (p:Addr) (bs:List Bool),xs=[.ref p]∧SqL X.K H p (bs.map V.bl)∧Q (.bl (bs.all id)) H):=by
  intro pins s σ H xs us Q I r h
  obtain ⟨p,bs,rfl,hq,q⟩:=h
  obtain ⟨u,rfl,rx⟩:=vals1 r
  cases rx
  obtain ⟨its,rv,pl,hz⟩:=I.list hq
  have hl:=pl.isList
  have hlt:p<s.heap.objs.size:=by obtain ⟨_,e,_⟩:=hl;exact Heap.lt_size e
  have hn:its.toArray.size=bs.length:=by rw [List.size_toArray,← rv.length,List.length_map]
  refine call_all_walk (wpAny_pyIter_list hl ?_)
  refine ⟨_,_,_,_,_,_,fun i=>(bs[i]?).getD true,rfl,Walks.list (A:=X.A.in1) (I.ok.hd hc) s.heap.objs.size p (Nat.ne_of_lt hlt) its.toArray,⟨⟨_,Heap.get?_push_size _ rfl,rfl,rfl⟩,hl.push _⟩,?_,fun h' tk hk=>?_⟩
  · intro i v s' Q' E' hP hQ
    have hv:its[i]?=some v:=by simpa using hP
    cases eb:bs[i]? with
    | none =>
      have:=rv.none_of (i:=i) (by rw [List.getElem?_map,eb];rfl)
      rw [this] at hv;cases hv
    | some b =>
      obtain ⟨u,hu,ru⟩:=rv.get (i:=i) (x:=.bl b) (by rw [List.getElem?_map,eb];rfl)
      rw [hu] at hv;cases hv
      cases ru
      refine wpAny_truthy_bool ?_
      have e:(bs[i]?).getD true=b:=by rw [eb];rfl
      rw [← e];exact hQ
  · rw [hn,all_range]
    exact ⟨.bl _,H,(show Inv X pins σ H {s with heap:=h',toks:=tk} from seen I hk),rfl,q⟩
theorem pre_take (ns:List Int):∀ k,k≤ns.length→preSum (fun i=>(ns[i]?).getD 0) k=(ns.take k).sum
  | 0,_=>by simp [preSum]
  | k+1,h=>by
    have e:ns[k]?=some (ns[k]'(by lia)):=by simp
    rw [preSum,pre_take ns k (by lia),List.take_add_one,e,List.sum_append]
    simp
theorem sum_bound {B:Int}:∀ (ns:List Int),(∀ n∈ns,-B≤n∧n≤B)→-(ns.length*B)≤ns.sum∧ns.sum≤ns.length*B
  | [],_=>by simp
  | n::r,h=>by
    have h1:=h n (by simp)
    have h2:=sum_bound r fun m hm=>h m (List.mem_cons_of_mem _ hm)
    rw [List.sum_cons,List.length_cons]
    have e:((r.length+1:Nat):Int)*B=r.length*B+B:=by rw [Int.natCast_add,Int.add_mul];simp
    lia
theorem call_sumL (hc:X.calm=true):CallR X (.builtin "sum") (fun xs H Q=>∃ (p:Addr) (ns:List Int),xs=[.ref p]∧SqL X.K H p (ns.map V.int)∧(ns.length≤1000∧∀ n∈ns,-1000000000≤n∧n≤1000000000)∧Q (.int ns.sum) H):=by
  intro pins s σ H xs us Q I r h
  obtain ⟨p,ns,rfl,hq,⟨hb0,hb⟩,q⟩:=h
  obtain ⟨u,rfl,rx⟩:=vals1 r
  cases rx
  obtain ⟨its,rv,pl,hz⟩:=I.list hq
  have hl:=pl.isList
  have hlt:p<s.heap.objs.size:=by obtain ⟨_,e,_⟩:=hl;exact Heap.lt_size e
  have hn:its.toArray.size=ns.length:=by rw [List.size_toArray,← rv.length,List.length_map]
  refine call_sum_walk (wpAny_pyIter_list hl ?_)
  refine ⟨_,_,_,_,_,_,fun i=>(ns[i]?).getD 0,rfl,Walks.list (A:=X.A.in1) (I.ok.hd hc) s.heap.objs.size p (Nat.ne_of_lt hlt) its.toArray,⟨⟨_,Heap.get?_push_size _ rfl,rfl,rfl⟩,hl.push _⟩,fun b hb'=>?_,fun i v hP=>?_,fun j hj=>?_,fun h' tk t' hk=>?_⟩
  · show b<(s.heap.push _).objs.size
    rw [Heap.size_push]
    rcases List.mem_cons.mp hb' with rfl | hb'
    · exact Nat.lt_succ_self _
    · have e:b=p:=by simpa using hb'
      rw [e];exact Nat.lt_succ_of_lt hlt
  · have hv:its[i]?=some v:=by simpa using hP
    cases eb:ns[i]? with
    | none =>
      have:=rv.none_of (i:=i) (by rw [List.getElem?_map,eb];rfl)
      rw [this] at hv;cases hv
    | some b =>
      obtain ⟨u,hu,ru⟩:=rv.get (i:=i) (x:=.int b) (by rw [List.getElem?_map,eb];rfl)
      rw [hu] at hv;cases hv
      obtain ⟨t,rfl⟩:=ru
      exact ⟨t,by simp [eb]⟩
  · rw [hn] at hj
    have e:ns[j]?=some ns[j]:=by simp [hj]
    have b1:=hb ns[j] (List.getElem_mem hj)
    have b2:=sum_bound (B:=1000000000) (ns.take (j+1)) fun m hm=>hb m (List.mem_of_mem_take hm)
    rw [pre_take ns (j+1) (by lia)]
    have e3:(ns.take (j+1)).length=j+1:=by rw [List.length_take];lia
    rw [e3] at b2
    refine ⟨⟨?_,?_⟩,?_,?_⟩
    · show _≤(ns[j]?).getD 0
      rw [e];show _≤ns[j];lia
    · show (ns[j]?).getD 0<_
      rw [e];show ns[j]<_;lia
    · lia
    · lia
  · rw [hn,pre_take ns ns.length (Nat.le_refl _),List.take_length]
    exact ⟨.int _,H,(show Inv X pins σ H {s with heap:=h',toks:=tk} from seen I hk),⟨_,rfl⟩,q⟩
noncomputable def DatV (P:Program) (w:World) (H:Hp) (x:V) (d:PyData):Prop:=∀ (h:Heap) (v:Value),HOk P w H h→RelV x v→∃ as,Reads h v d as
section
variable {P:Program} {w:World} {H:Hp}
theorem datI (i:Int):DatV P w H (.int i) (.int i):=fun h v _ r=>by obtain ⟨t,rfl⟩:=r;exact ⟨_,.int i t⟩
theorem datS (x:Str):DatV P w H (.str x) (.str x):=fun h v _ r=>by obtain ⟨t,rfl⟩:=r;exact ⟨_,.str x t⟩
theorem dats {h:Heap} (ok:HOk P w H h) {xs:List V} {its:List Value} {ds:List PyData} (a:Vals xs its) (b:Paired (DatV P w H) xs ds):∃ as,ReadsAll h its ds as:=by
  induction a generalizing ds with
  | nil=>cases b;exact ⟨_,.nil⟩
  | cons r t ih =>
    cases b with
    | cons q u =>
      obtain ⟨as,h1⟩:=q _ _ ok r
      obtain ⟨bs,h2⟩:=ih u
      exact ⟨_,.cons h1 h2⟩
theorem datL {a:Addr} {xs:List V} {ds:List PyData} (e:H a=some (.lst xs)) (r:Paired (DatV P w H) xs ds):DatV P w H (.ref a) (.list ds):=fun h v ok rv=>by
  cases rv
  obtain ⟨_,its,n,rs,e1⟩:=ok a _ e
  obtain ⟨as,h1⟩:=dats ok rs r
  exact ⟨_,.list e1 rfl rfl (by simpa using h1)⟩
theorem datT {a:Addr} {xs:List V} {ds:List PyData} (e:H a=some (.tup xs)) (r:Paired (DatV P w H) xs ds):DatV P w H (.ref a) (.tuple ds):=fun h v ok rv=>by
  cases rv
  obtain ⟨_,its,rs,o,e1,c,n,d⟩:=ok a _ e
  obtain ⟨as,h1⟩:=dats ok rs r
  exact ⟨_,.tuple e1 c d (by simpa using h1)⟩
theorem datIs:∀ ns:List Int,Paired (DatV P w H) (ns.map V.int) (ns.map PyData.int)
  | []=>.nil
  | n::r=>.cons (datI n) (datIs r)
end
theorem lays:∀ ns:List Int,PyData.canLayAll0 (ns.map PyData.int)=true
  | []=>rfl
  | n::r=>by
    rw [List.map_cons,PyData.canLayAll0,lays r]
    rfl
theorem depths:∀ ns:List Int,PyData.depthAll (ns.map PyData.int)=0
  | []=>rfl
  | n::r=>by
    rw [List.map_cons,PyData.depthAll,depths r]
    rfl
noncomputable def rEqD (P:Program) (w:World) (neg:Bool):R2:=fun x y H Q=>∃ dx dy,DatV P w H x dx∧DatV P w H y dy∧(dx.canLay0=true∧dy.canLay0=true∧dx.depth≤60)∧Q (.bl (if neg=true then !PyData.eqv dx dy else PyData.eqv dx dy)) H
theorem op_eqD (hu:X.A.units+64<cLine):OpR X (compareOp .Eq) (rEqD X.prog X.w false):=by
  intro pins s σ H x y v u Q I rx ry h
  obtain ⟨dx,dy,h1,h2,⟨c1,c2,c3⟩,q⟩:=h
  obtain ⟨as,r1⟩:=h1 _ _ I.hok rx
  obtain ⟨bs,r2⟩:=h2 _ _ I.hok ry
  refine SeqAt.compareEq_reads r1 r2 c1 c2 ?_ ⟨.bl _,H,I,rfl,q⟩
  have:min dx.depth dy.depth≤dx.depth:=Nat.min_le_left _ _
  lia
theorem op_neD (hu:X.A.units+64<cLine):OpR X (compareOp .NotEq) (rEqD X.prog X.w true):=by
  intro pins s σ H x y v u Q I rx ry h
  obtain ⟨dx,dy,h1,h2,⟨c1,c2,c3⟩,q⟩:=h
  obtain ⟨as,r1⟩:=h1 _ _ I.hok rx
  obtain ⟨bs,r2⟩:=h2 _ _ I.hok ry
  refine SeqAt.compareNe_reads r1 r2 c1 c2 ?_ ⟨.bl _,H,I,rfl,q⟩
  have:min dx.depth dy.depth≤dx.depth:=Nat.min_le_left _ _
  lia
theorem eq_self {P:Program} {w:World} {neg:Bool} {x y:V} {H:Hp} {Q:VK} {d:PyData} (h1:DatV P w H x d) (h2:DatV P w H y d) (c1:d.canLay0=true) (c2:d.depth≤60) (q:Q (.bl (!neg)) H):rEqD P w neg x y H Q:=by
  refine ⟨d,d,h1,h2,⟨c1,c1,c2⟩,?_⟩
  rw [SeqAt.eqv_refl d c1]
  cases neg <;> exact q
end
end L2
namespace L2
open PySem PySem.Spec PyProof.Rows
section
variable {prog:Program} {w:World} {A:Around} {s:Shared}
end
section
variable {X:Cx} {e:Expr} {te:TE}
end
end L2
namespace L2
open PySem PySem.Spec PyProof.Rows
section
variable {X:Cx} {pins:List (Addr×Obj)} {σ:St} {H:Hp} {s:Shared} {h':Heap}
theorem Inv.turnedNew {ch:List Addr} {T:Addr} {o:HO} {t':Nat} (I:Inv X pins σ H s) (k:∀ b u,b∉ch→s.heap.get? b=some u→h'.get? b=some u) (hf:∀ b∈ch,FpOk X pins H b) (hT:s.heap.objs.size≤T)
    (new:ObjOk X.prog X.w (upd H T o) h' T o):Inv X pins σ (upd H T o) {s with heap:=h',toks:=t'}:=by
  have hn:=I.hok.fresh hT
  have lt:∀ b u,s.heap.get? b=some u→b≠T:=fun b u e=>Nat.ne_of_lt (Nat.lt_of_lt_of_le (Heap.lt_size e) hT)
  have tr:∀ b u,H b=some u→b∉ch:=fun b u e hb=>by
    obtain ⟨f0,_⟩:=hf b hb
    rw [e] at f0;cases f0
  refine I.step (g':=s.gens) (d':=s.drawn) (ch:=ch) (fun b hb=>?_) (fun b u _ _ hc e _=>k b u hc e) (fun b u _ _ hc e _=>⟨u.slots,k b u hc e⟩) (fun b u _ e n=>by rw [upd_ne (lt b u e)];exact n)
    (fun b u hc e=>⟨u,k b u hc e⟩) (fun b xs e=>by rw [upd_ne (ne_of_none e hn)];exact e) (fun b u x e=>by rw [upd_ne (ne_of_none e hn)];exact e) (fun b ps e=>⟨#[],by rw [upd_ne (ne_of_none e hn),e];simp⟩) (fun m hm=>?_) (fun b u e=>?_) I.bare
  · obtain ⟨_,f1,_,f3,f4,f5⟩:=hf b hb
    exact ⟨f3,f1,f4,f5⟩
  · obtain ⟨u,es,ep,hu,r⟩:=hm
    exact ⟨u,es,ep,k _ u (fun z=>(hf _ z).2.1 rfl) hu,r⟩
  · by_cases hb:b=T
    · subst hb
      rw [upd_same] at e;cases e
      exact new
    · rw [upd_ne hb] at e
      refine (I.hok b u e).stay (fun c v hc q=>k c v ?_ q) (fun c q=>by rw [upd_ne (ne_of_none q hn)];exact q) fun c xs q=>by rw [upd_ne (ne_of_none q hn)];exact q
      rcases hc with rfl | hc
      · exact tr _ _ e
      · exact tr _ _ hc
theorem Inv.turnedL {ch:List Addr} {t':Nat} (I:Inv X pins σ H s) (k:∀ b u,b∉ch→s.heap.get? b=some u→h'.get? b=some u) (hf:∀ b∈ch,FpOk X pins H b):Inv X pins σ H {s with heap:=h',toks:=t'}:=by
  have tr:∀ b u,H b=some u→b∉ch:=fun b u e hb=>by
    obtain ⟨f0,_⟩:=hf b hb
    rw [e] at f0;cases f0
  refine I.step (g':=s.gens) (d':=s.drawn) (ch:=ch) (fun b hb=>?_) (fun b u _ _ hc e _=>k b u hc e) (fun b u _ _ hc e _=>⟨u.slots,k b u hc e⟩) (fun _ _ _ _ n=>n)
    (fun b u hc e=>⟨u,k b u hc e⟩) (fun _ _ e=>e) (fun _ _ _ e=>e) (fun b ps e=>⟨#[],by rw [e];simp⟩) (fun m hm=>?_) (fun b u e=>?_) I.bare
  · obtain ⟨_,f1,_,f3,f4,f5⟩:=hf b hb
    exact ⟨f3,f1,f4,f5⟩
  · obtain ⟨u,es,ep,hu,r⟩:=hm
    exact ⟨u,es,ep,k _ u (fun z=>(hf _ z).2.1 rfl) hu,r⟩
  · refine (I.hok b u e).stay (fun c v hc q=>k c v ?_ q) (fun _ q=>q) fun _ _ q=>q
    rcases hc with rfl | hc
    · exact tr _ _ e
    · exact tr _ _ hc
end
noncomputable def Itz (K:PySem.W.Frag) (a b:Addr):It :=
  ⟨fun i H=>∃ xs ys x y,SqL K H a xs∧SqL K H b ys∧xs[i]?=some x∧ys[i]?=some y,
   fun i H v H'=>∃ t x y,v=.ref t∧H t=none∧(∀ xs,SqL K H a xs→xs[i]?=some x)∧(∀ ys,SqL K H b ys→ys[i]?=some y)∧H'=upd H t (.tup [x,y]),
   fun i H=>∃ xs ys,SqL K H a xs∧SqL K H b ys∧(xs.length≤i∨ys.length≤i)⟩
theorem turn_zip {P:Program} {w:World} {K:PySem.W.Frag} {elts:List Expr} {x1} {pos:Pos} (a b z TI TO i1 i2:Addr) (D:ZipApart z TI TO i1 i2 a b):Turn P w K (.Tuple elts x1 pos) (Itz K a b) [z,TI,TO,i1,i2] z
    (fun i h=>IsZip h z TI TO .none∧IsPair h TI (.ref i1) (.ref i2)∧(∃ u v,IsPair h TO u v)∧h.IsListIter i1 a i∧h.IsListIter i2 b i) where
  mem:=by simp
  obj:=fun i h st c hb=>by
    obtain ⟨h1,h2,⟨u,v,h3⟩,⟨o4,h4,_,d4⟩,⟨o5,h5,_,d5⟩⟩:=st
    simp only [List.mem_cons,List.not_mem_nil,or_false] at hb
    rcases hb with rfl | rfl | rfl | rfl | rfl
    · exact ⟨_,h1,fun v z=>by cases z⟩
    · exact ⟨_,h2,fun v z=>by cases z⟩
    · exact ⟨_,h3,fun v z=>by cases z⟩
    · exact ⟨o4,h4,fun v z=>by rw [d4] at z;cases z⟩
    · exact ⟨o5,h5,fun v z=>by rw [d5] at z;cases z⟩
  keep:=fun i h h' st k=>by
    obtain ⟨h1,h2,⟨u,v,h3⟩,h4,h5⟩:=st
    exact ⟨k z (by simp) _ h1,k TI (by simp) _ h2,⟨u,v,k TO (by simp) _ h3⟩,h4.at fun o q=>k i1 (by simp) o q,h5.at fun o q=>k i2 (by simp) o q⟩
  item:=by
    intro X hP hw hK hc i pins s σ H E I hf st hg
    subst hP hw hK
    obtain ⟨h1,h2,⟨u0,v0,h3⟩,h4,h5⟩:=st
    obtain ⟨xs,ys,x,y,hqa,hqb,hx,hy⟩:=hg
    obtain ⟨its,rv,p,hz⟩:=I.list hqa
    obtain ⟨jts,rw',p',hz'⟩:=I.list hqb
    obtain ⟨u,hu,ru⟩:=rv.get hx
    obtain ⟨v,hv,rv'⟩:=rw'.get hy
    have e1:=Heap.lt_size h1
    have fpo:∀ c∈[z,TI,TO,i1,i2],∃ o,s.heap.get? c=some o:=fun c hb=>by
      obtain ⟨o4,q4,_⟩:=h4
      obtain ⟨o5,q5,_⟩:=h5
      simp only [List.mem_cons,List.not_mem_nil,or_false] at hb
      rcases hb with rfl | rfl | rfl | rfl | rfl
      · exact ⟨_,h1⟩
      · exact ⟨_,h2⟩
      · exact ⟨_,h3⟩
      · exact ⟨_,q4⟩
      · exact ⟨_,q5⟩
    refine wpAny_pyNext_zip_item D h1 h2 h3 h4 h5 p.isList p'.isList (x:=u) (y:=v) (by simpa using hu) (by simpa using hv) fun h' g1 g2 g3 g4 g5 g6 g7=>⟨_,rfl,?_⟩
    refine wpAny_letOwnedTupleGo_zip g1 fun h2' g8 g9=>?_
    have kk:∀ c o,c∉[z,TI,TO,i1,i2]→s.heap.get? c=some o→h2'.get? c=some o:=fun c o hb q =>
      g9.extBut c o (fun q=>hb (by simp [q])) (g7 c o (fun q=>hb (by simp [q])) (fun q=>hb (by simp [q])) (fun q=>hb (by simp [q])) (fun q=>hb (by simp [q])) q)
    have tT:h2'.get? s.heap.objs.size=some {cls:=.type "tuple",data:=.seq #[u,v]}:=g9.extBut _ _ (Nat.ne_of_gt e1) g5
    have I1:=I.turnedNew (t':=s.toks) (T:=s.heap.objs.size) (o:=.tup [x,y]) kk hf (Nat.le_refl _) ⟨by show 2≤sizeLine;decide,[u,v],.cons ru (.cons rv' .nil),⟨_,tT,rfl,_,rfl⟩⟩
    have hn:H s.heap.objs.size=none:=I.hok.fresh (Nat.le_refl _)
    refine ⟨.ref s.heap.objs.size,_,I1,rfl,⟨_,x,y,rfl,hn,fun zs hy'=>by rw [I.list_inj hy' hqa];exact hx,fun zs hy'=>by rw [I.list_inj hy' hqb];exact hy,rfl⟩,⟨g8,?_,⟨u,v,?_⟩,?_,?_⟩,fun c hb=>?_⟩
    · exact g9.extBut _ _ D.TIz (g7 _ _ D.TIz D.TITO D.TIi1 D.TIi2 h2)
    · exact g9.extBut _ _ D.TOz g2
    · exact g3.extBut g9.extBut D.i1z
    · exact g4.extBut g9.extBut D.i2z
    · obtain ⟨f0,_⟩:=hf c hb
      obtain ⟨o,q⟩:=fpo c hb
      rw [upd_ne (Nat.ne_of_lt (Heap.lt_size q))];exact f0
  done:=by
    intro X hP hw hK hc i pins s σ H E I hf st hg
    subst hP hw hK
    obtain ⟨h1,h2,⟨u0,v0,h3⟩,h4,h5⟩:=st
    obtain ⟨xs,ys,hqa,hqb,hx⟩:=hg
    obtain ⟨its,rv,p,hz⟩:=I.list hqa
    obtain ⟨jts,rw',p',hz'⟩:=I.list hqb
    have hl:=rv.length
    have hl':=rw'.length
    refine wpAny_pyNext_zip_end (I.ok.hd hc) D h1 h2 h3 h4 h5 p.isList p'.isList ?_ fun h' eb=>⟨rfl,I.turnedL (t':=s.toks) (ch:=[z,TI,TO,i1,i2]) (fun c o hb q=>eb c o (fun q=>hb (by simp [q])) (fun q=>hb (by simp [q])) (fun q=>hb (by simp [q])) (fun q=>hb (by simp [q])) q) hf⟩
    rcases hx with hx | hx
    · exact .inl (by simp;lia)
    · exact .inr (by simp;lia)
  self:=fun _ _ _ _ _ st h=>wpAny_pyIter_zip st.1 h
section
variable {X:Cx} {l l2:Expr} {tl tl2:TE} {elts:List Expr} {p pos tpos:Pos}
noncomputable def iZip (K:PySem.W.Frag) (tl tl2:TE):TI:=fun σ H R=>tl σ H fun x H1=>tl2 σ H1 fun y H2=>∃ a b,x=.ref a∧y=.ref b∧(∃ xs,SqL K H2 a xs)∧(∃ ys,SqL K H2 b ys)∧R (Itz K a b) H2
theorem pi_zip {x1} (hg:Gl X "zip") (hm:X.mg "zip"=none) (hl:PE X l tl) (hl2:PE X l2 tl2) (hs:starEach [l,l2] X.env=[(false,eval l X.env),(false,eval l2 X.env)]:=by rfl) (hs2:starEach [l2] X.env=[(false,eval l2 X.env)]:=by rfl) :
    PI X (.Tuple elts x1 tpos) (.Call (.Name "zip" p) [l,l2] [] pos) (iZip X.K tl tl2):=by
  intro pins s σ H R I h
  refine Call_ (ld_blt I hg hm boot_zip (PyProof.Rows.callWith_type1 ?_ (by rw [hs,hs2]) (by rw [hs2];rfl)))
  rw [hs]
  show wpAny _ _ (spliced ((false,eval l X.env)::(false,eval l2 X.env)::backTo pos (starEach [] X.env))) _ _ s
  refine Calls.spliced_cons (thn (hl pins s σ H _ I h) fun u s1 ⟨x,H1,I1,r1,q1⟩=>Calls.spliced_cons (thn (hl2 pins s1 σ H1 _ I1 q1) fun u2 s2 ⟨y,H2,I2,r2,q2⟩=>Calls.spliced_nil ?_))
  obtain ⟨a,b,rfl,rfl,⟨xs,hqa⟩,⟨ys,hqb⟩,q⟩:=q2
  cases r1
  cases r2
  obtain ⟨its,rv,pl,hz⟩:=I2.list hqa
  obtain ⟨jts,rv',pl',hz'⟩:=I2.list hqb
  have la:a<s2.heap.objs.size:=by obtain ⟨_,e,_⟩:=pl.isList;exact Heap.lt_size e
  have lb:b<s2.heap.objs.size:=by obtain ⟨_,e,_⟩:=pl'.isList;exact Heap.lt_size e
  refine call_zip_2 pl.isList pl'.isList fun h' g1 g2 g3 g4 g5 g6 g7=>?_
  have D:ZipApart (s2.heap.objs.size+4) (s2.heap.objs.size+2) (s2.heap.objs.size+3) s2.heap.objs.size (s2.heap.objs.size+1) a b:=zipApart_new la lb
  have T:=turn_zip (P:=X.prog) (w:=X.w) (K:=X.K) (elts:=elts) (x1:=x1) (pos:=tpos) a b _ _ _ _ _ D
  refine T.self _ 0 _ _ _ ⟨g1,g2,⟨_,_,g3⟩,g4,g5⟩ ?_
  refine ⟨s2.heap.objs.size+4,_,_,_,H2,rfl,I2.kept (t':=s2.toks) g7,T,⟨g1,g2,⟨_,_,g3⟩,g4,g5⟩,fun c hb=>?_,q⟩
  have hb':s2.heap.objs.size≤c:=by
    simp only [List.mem_cons,List.not_mem_nil,or_false] at hb
    rcases hb with rfl | rfl | rfl | rfl | rfl
    · exact Nat.le_add_right _ _
    · exact Nat.le_add_right _ _
    · exact Nat.le_add_right _ _
    · exact Nat.le_refl _
    · exact Nat.le_add_right _ _
  exact I2.fpOk hb' (I2.hok.fresh hb')
end
theorem comp_zip {K:PySem.W.Frag} {a b:Addr} {xs ys:List V} {G:V→Hp→(List V→Hp→Prop)→List V→Prop} {Fin:List V→Hp→Prop} {H:Hp} (Pv:Nat→List V→Hp→Prop) (hlen:xs.length=ys.length) (h0:Pv 0 [] H)
    (hl:∀ i zs H,i≤xs.length→Pv i zs H→SqL K H a xs∧SqL K H b ys) (hz:∀ i zs H,i<xs.length→Pv i zs H→zs.length<sizeLine)
    (hs:∀ i x y zs H t,xs[i]?=some x→ys[i]?=some y→Pv i zs H→H t=none→G (.ref t) (upd H t (.tup [x,y])) (Pv (i+1)) zs) (hd:∀ zs H,Pv xs.length zs H→Fin zs H) :
    ∃ W:Nat→Nat→List V→Hp→Prop,(∃ m,W 0 m [] H)∧∀ i m zs H,W i m zs H→
      ((Itz K a b).stop i H∧Fin zs H)∨((Itz K a b).go i H∧zs.length<sizeLine∧∃ Nx:List V→Hp→Prop,(∀ ys' H',Nx ys' H'→∃ m',m'<m∧W (i+1) m' ys' H')∧∀ x H',(Itz K a b).yld i H x H'→G x H' Nx zs):=by
  refine ⟨fun i m zs H=>m=xs.length - i∧i≤xs.length∧Pv i zs H,⟨xs.length,by simp,Nat.zero_le _,h0⟩,?_⟩
  rintro i m zs H ⟨rfl,hi,p⟩
  obtain ⟨q1,q2⟩:=hl i zs H hi p
  by_cases hlt:i<xs.length
  · have e1:xs[i]?=some xs[i]:=by simp [hlt]
    have e2:ys[i]?=some (ys[i]'(by lia)):=by simp
    refine .inr ⟨⟨xs,ys,_,_,q1,q2,e1,e2⟩,hz i zs H hlt p,Pv (i+1),fun ys' H' p'=>⟨xs.length - (i+1),by lia,rfl,hlt,p'⟩,fun v H' y=>?_⟩
    obtain ⟨t,x,y,rfl,ht,y1,y2,rfl⟩:=y
    exact hs i x y zs H t (y1 xs q1) (y2 ys q2) p ht
  · have e:i=xs.length:=by lia
    subst e
    exact .inl ⟨⟨xs,ys,q1,q2,.inl (Nat.le_refl _)⟩,hd zs H p⟩
end L2
namespace Ma
noncomputable def dws (b n L i:Nat):List Nat:=(List.range i).map fun j=>n / b ^ (L - 1 - j) % b
theorem dws_succ (b n L i:Nat):dws b n L (i+1)=dws b n L i++[n / b ^ (L - 1 - i) % b]:=by
  unfold dws;rw [List.range_succ,List.map_append];rfl
theorem dws_len (b n L i:Nat):(dws b n L i).length=i:=by simp [dws]
theorem sum_le6:∀ (ps:List Nat),(∀ p∈ps,1≤p∧p≤6)→ps.length≤ps.sum∧ps.sum≤6*ps.length
  | [],_=>by simp
  | p::r,h=>by
    have h1:=h p (by simp)
    have h2:=sum_le6 r fun q hq=>h q (List.mem_cons_of_mem _ hq)
    simp only [List.sum_cons,List.length_cons]
    lia
theorem sum_cast:∀ (ps:List Nat),(ps.map fun (p:Nat)=>(p:Int)).sum=((ps.sum:Nat):Int)
  | []=>rfl
  | p::r=>by simp [sum_cast r]
end Ma
namespace Ma
noncomputable def cuts:List Nat→List Int→List (List Int)
  | [],_=>[]
  | p::ps,xs=>xs.take p::cuts ps (xs.drop p)
noncomputable def psums (ps:List Nat) (xs:List Int):List Int:=(cuts ps xs).map List.sum
noncomputable def ends:Nat→List Nat→List Nat
  | _,[]=>[]
  | o,p::ps=>(o+p)::ends (o+p) ps
end Ma
namespace Ma
noncomputable def wts (b n L:Nat) (ws:List Int):List Int:=List.zipWith (fun (d:Nat) (x:Int)=>(d:Int)*x) (dws b n L L) ws
theorem wts_len (b n L:Nat) (ws:List Int) (h:ws.length=L):(wts b n L ws).length=L:=by
  unfold wts;rw [List.length_zipWith,dws_len,h,Nat.min_self]
theorem cuts_len (ps:List Nat):∀ xs:List Int,(cuts ps xs).length=ps.length:=by
  induction ps with
  | nil=>intro xs;rfl
  | cons p ps ih=>intro xs;simp [cuts,ih]
theorem cuts_get (ps:List Nat):∀ (xs:List Int) (i p:Nat),ps[i]?=some p→(cuts ps xs)[i]?=some ((xs.drop (ps.take i).sum).take p):=by
  induction ps with
  | nil=>intro xs i p h;simp at h
  | cons q ps ih =>
    intro xs i p h
    cases i with
    | zero=>simp at h;subst h;simp [cuts]
    | succ i =>
      have h':ps[i]?=some p:=by simpa using h
      have:=ih (xs.drop q) i p h'
      simp only [cuts,List.getElem?_cons_succ,this,List.take_succ_cons,List.sum_cons,List.drop_drop]
theorem cuts_mem {ps:List Nat}:∀ {xs row:List Int},row∈cuts ps xs→∀ x∈row,x∈xs:=by
  induction ps with
  | nil=>intro xs row h;simp [cuts] at h
  | cons p ps ih =>
    intro xs row h x hx
    rcases List.mem_cons.mp h with rfl | h
    · exact List.mem_of_mem_take hx
    · exact List.mem_of_mem_drop (ih h x hx)
theorem cuts_short {ps:List Nat} (hp:∀ p∈ps,p≤6):∀ {xs row:List Int},row∈cuts ps xs→row.length≤6:=by
  induction ps with
  | nil=>intro xs row h;simp [cuts] at h
  | cons p ps ih =>
    intro xs row h
    rcases List.mem_cons.mp h with rfl | h
    · have:=hp p (by simp);rw [List.length_take];lia
    · exact ih (fun q hq=>hp q (List.mem_cons_of_mem _ hq)) h
end Ma
namespace Ma
noncomputable def maxL:List Int→Int
  | []=>0
  | [x]=>x
  | x::r=>max x (maxL r)
noncomputable def minL:List Int→Int
  | []=>0
  | [x]=>x
  | x::r=>min x (minL r)
theorem maxL_spec:∀ ns:List Int,0<ns.length→maxL ns∈ns∧∀ n∈ns,n≤maxL ns
  | [],h=>by simp at h
  | [x],_=>by simp [maxL]
  | x::y::r,_=>by
    have ih:=maxL_spec (y::r) (by simp)
    have e:maxL (x::y::r)=max x (maxL (y::r)):=rfl
    rw [e]
    refine ⟨?_,fun n hn=>?_⟩
    · rcases Int.le_total x (maxL (y::r)) with h | h
      · rw [Int.max_eq_right h];exact List.mem_cons_of_mem _ ih.1
      · rw [Int.max_eq_left h];simp
    · rcases List.mem_cons.mp hn with rfl | hn
      · exact Int.le_max_left _ _
      · exact Int.le_trans (ih.2 n hn) (Int.le_max_right _ _)
theorem minL_spec:∀ ns:List Int,0<ns.length→minL ns∈ns∧∀ n∈ns,minL ns≤n
  | [],h=>by simp at h
  | [x],_=>by simp [minL]
  | x::y::r,_=>by
    have ih:=minL_spec (y::r) (by simp)
    have e:minL (x::y::r)=min x (minL (y::r)):=rfl
    rw [e]
    refine ⟨?_,fun n hn=>?_⟩
    · rcases Int.le_total x (minL (y::r)) with h | h
      · rw [Int.min_eq_left h];simp
      · rw [Int.min_eq_right h];exact List.mem_cons_of_mem _ ih.1
    · rcases List.mem_cons.mp hn with rfl | hn
      · exact Int.min_le_left _ _
      · exact Int.le_trans (Int.min_le_right _ _) (ih.2 n hn)
theorem maxL_uniq {ns:List Int} {m:Int} (h1:m∈ns) (h2:∀ n∈ns,n≤m):m=maxL ns:=by
  have h:=maxL_spec ns (List.length_pos_of_mem h1)
  exact Int.le_antisymm (h.2 m h1) (h2 _ h.1)
theorem minL_uniq {ns:List Int} {m:Int} (h1:m∈ns) (h2:∀ n∈ns,m≤n):m=minL ns:=by
  have h:=minL_spec ns (List.length_pos_of_mem h1)
  exact Int.le_antisymm (h2 _ h.1) (h.2 m h1)
end Ma
namespace L2
open PySem PySem.Spec PyProof.Rows
structure Def (P:Program) (w:World) (K:PySem.W.Frag) (mg:Str→Option Value) (base:Heap) (k:Nat) (x:Str) (ps:List Str) (sp:Sp):Prop where
  ex:∃ f fd,FnOk P w K mg base CX0 k f fd ps sp∧mg x=some (.ref f)∧PySem.W.keepIn K (.ref f)=true∧Binds K fd ps []
section
variable {X:Cx} {k:Nat} {x:Str} {ps:List Str} {sp:Sp} {e a b c:Expr} {es:List Expr} {t:TA} {ta tb tc te:TE} {p pos:Pos}
theorem pe_fn (D:Def X.prog X.w X.K X.mg X.base k x ps sp) (hr:Room k X.A) (hg:Gl X x) (ha:PA X (e::es) t) (hdb:(x==("__debug__":Str))=false:=by decide)
    (he:starEach (e::es) X.env=(false,eval e X.env)::starEach es X.env:=by rfl) (hpl:(backTo pos (starEach es X.env)).any (·.1)=false:=by rfl):PE X (.Call (.Name x p) (e::es) [] pos) (tCall sp [] E0 t):=by
  obtain ⟨f,fd,G,h1,h2,h3⟩:=D.ex
  exact pe_call G hr hg h1 h2 h3 .nil pass0 ha hdb he hpl
theorem ixl (ha:PE X a ta) (hb:PE X b tb) (hs:PlainIx b:=by intro _ _;rfl):PE X (.Subscript a b pos) (tOp (rIxL X.K) ta tb):=pe_ix ix_list ha hb hs
theorem ixt (ha:PE X a ta) (hb:PE X b tb) (hs:PlainIx b:=by intro _ _;rfl):PE X (.Subscript a b pos) (tOp (rIxT X.K) ta tb):=pe_ix ix_tup ha hb hs
theorem lenS (hm:X.mg "len"=none) (hg:Gl X "len") (ha:PE X a ta) (hs:starEach [a] X.env=[(false,eval a X.env)]:=by rfl) :
    PE X (.Call (.Name "len" p) [a] [] pos) (tCB (fun xs H Q=>∃ p ys,xs=[.ref p]∧(SqL X.K H p ys∨SqT X.K H p ys)∧Q (.int ys.length) H) (tCons ta tNil)):=pe_callB call_len_seq hg hm PySem.boot_len (pa_cons ha pa_nil hs) (he:=hs)
theorem ixtK (K:PySem.W.Frag) (hK:X.K=K) (ha:PE X a ta) (hb:PE X b tb) (hs:PlainIx b:=by intro _ _;rfl):PE X (.Subscript a b pos) (tOp (rIxT K) ta tb):=by
  subst hK
  exact ixt ha hb hs
theorem pg_tupK (K:PySem.W.Frag) (hK:X.K=K) {k n:Nat} {u:TGs} (hc:X.calm=true) (h:PGs X es u) (hn:(assignEach es X.env).length=n:=by rfl) (hst:(assignEach es X.env).findIdx? (·.1)=none:=by rfl):PG X (.Tuple es k pos) (gTup K n u):=by
  subst hK
  exact pg_tup hc h hn hst
theorem op_neDP (P:Program) (w:World) (hP:X.prog=P) (hw:X.w=w) (hu:X.A.units+64<cLine):OpR X (compareOp .NotEq) (rEqD P w true):=by
  subst hP hw
  exact op_neD hu
theorem gk_two {K:PySem.W.Frag}:GKeeps 2 (gTup K 2 (gCons (gName 0) (gCons (gName 1) gNil))):=fun v σ H Q q=>by
  obtain ⟨a,xs,e,h1,h2,v0,r0,e0,v1,r1,e1,e2,q⟩:=q
  exact ⟨a,xs,e,h1,h2,v0,r0,e0,v1,r1,e1,e2,⟨by simp,fun i hi=>by rw [List.getElem?_set_ne (by lia),List.getElem?_set_ne (by lia)]⟩,q⟩
theorem pe_ty {y:Str} {T:String} (hm:X.mg y=none) (hv:bootBuiltins y=some (.type T)) (hg:Gl X y:=by rfl) (hn:y≠"__name__":=by decide) (hd:(y==("__debug__":Str))=false:=by decide):PE X (.Name y pos) (tC (.ty T)) :=
  pe_bltn (v:=.ty T) hg hm hv rfl hn hd
theorem r_ixl {K:PySem.W.Frag} {H:Hp} {q:Addr} {xs:List V} {i:Int} {v:V} {Q:VK} (h:H q=some (.lst xs)) (e:atI xs i=some v) (k:Q v H):rIxL K (.ref q) (.int i) H Q:=⟨q,xs,i,v,rfl,rfl,SqL.of h,e,k⟩
theorem r_ixt {K:PySem.W.Frag} {H:Hp} {q:Addr} {xs:List V} {i:Int} {v:V} {Q:VK} (h:H q=some (.tup xs)) (e:atI xs i=some v) (k:Q v H):rIxT K (.ref q) (.int i) H Q:=⟨q,xs,i,v,rfl,rfl,SqT.of h,e,k⟩
theorem at_all {xs:List V} {i:Int} {Pr:V→Prop} (h0:0≤i) (h1:i<xs.length) (h:∀ x∈xs,Pr x):∃ v,atI xs i=some v∧Pr v:=by
  obtain ⟨j,rfl⟩:∃ j:Nat,i=j:=⟨i.toNat,by lia⟩
  have hj:j<xs.length:=by lia
  exact ⟨xs[j],atI_nat (by simp [hj]),h _ (List.getElem_mem hj)⟩
end
end L2
namespace Hv
open PySem L2
theorem sz {n:Nat} (h:n≤1000000):n≤sizeLine:=Nat.le_trans h (by decide)
theorem szl {n:Nat} (h:n≤1000000):n<sizeLine:=Nat.lt_of_le_of_lt h (by decide)
noncomputable def Kp (fp:List Addr) (H H':Hp):Prop:=∀ b o,H b=some o→b∉fp→H' b=some o
theorem Kp.refl {fp:List Addr} {H:Hp}:Kp fp H H:=fun _ _ h _=>h
theorem Kp.trans {fp:List Addr} {H H1 H2:Hp} (a:Kp fp H H1) (b:Kp fp H1 H2):Kp fp H H2:=fun c o h n=>b c o (a c o h n) n
theorem Kp.of {fp:List Addr} {H H':Hp} (a:Same H H'):Kp fp H H':=fun c o h _=>a c o h
theorem Kp.same {fp:List Addr} {H H1 H2:Hp} (a:Kp fp H H1) (b:Same H1 H2):Kp fp H H2:=fun c o h n=>b c o (a c o h n)
theorem same_upd {H:Hp} {a:Addr} {o:HO} (h:H a=none):Same H (upd H a o):=fun b u e=>by rw [upd_ne (ne_of_none e h)];exact e
theorem same_upd2 {H H':Hp} {a:Addr} {o:HO} (s:Same H H') (h:H a=none):Same H (upd H' a o):=fun b u e=>by rw [upd_ne (ne_of_none e h)];exact s b u e
theorem kp_upd {fp:List Addr} {H H':Hp} {a:Addr} {o:HO} (s:Kp fp H H') (h:a∈fp∨H a=none):Kp fp H (upd H' a o):=fun b u e n=>by
  have:b≠a:=by
    rcases h with h | h
    · exact fun z=>n (z▸h)
    · exact ne_of_none e h
  rw [upd_ne this];exact s b u e n
structure FrOk (b:Nat) (ps:List Nat) (ws:List Int):Prop where
  b2:2≤b
  b16:b≤16
  l2:2≤ps.length
  l4:ps.length≤4
  pr:∀ p∈ps,1≤p∧p≤6
  wl:ws.length=ps.sum
  wr:∀ x∈ws,-9≤x∧x≤9
noncomputable abbrev natV (ps:List Nat):List V:=ps.map fun (p:Nat)=>V.int (p:Int)
theorem natV_eq (ps:List Nat):natV ps=(ps.map fun (p:Nat)=>(p:Int)).map V.int:=by simp [natV]
structure FrAt (H:Hp) (f a c:Addr) (b:Nat) (ps:List Nat) (ws:List Int):Prop where
  tp:H f=some (.tup [.int b,.ref a,.ref c])
  hp:H a=some (.lst (natV ps))
  hw:H c=some (.lst (ws.map V.int))
  ok:FrOk b ps ws
theorem FrAt.keep {H H':Hp} {f a c:Addr} {b:Nat} {ps:List Nat} {ws:List Int} (F:FrAt H f a c b ps ws) (s:Same H H'):FrAt H' f a c b ps ws:=⟨s _ _ F.tp,s _ _ F.hp,s _ _ F.hw,F.ok⟩
theorem FrAt.kp {fp:List Addr} {H H':Hp} {f a c:Addr} {b:Nat} {ps:List Nat} {ws:List Int} (F:FrAt H f a c b ps ws) (s:Kp fp H H') (h1:f∉fp) (h2:a∉fp) (h3:c∉fp):FrAt H' f a c b ps ws :=
  ⟨s _ _ F.tp h1,s _ _ F.hp h2,s _ _ F.hw h3,F.ok⟩
theorem FrOk.sum {b:Nat} {ps:List Nat} {ws:List Int} (F:FrOk b ps ws):2≤ps.sum∧ps.sum≤24:=by
  have h:=Ma.sum_le6 ps F.pr
  have h1:=F.l2
  have h2:=F.l4
  lia
theorem Kp.free {fp:List Addr} {H H':Hp} (s:Kp fp H H') {l:Addr} (h:H' l=none) (n:l∉fp):H l=none:=by
  cases q:H l with
  | none=>rfl
  | some o =>
    rw [s l o q n] at h
    cases h
end Hv
namespace Hv
open PySem L2
theorem boot_isinstance:bootBuiltins "isinstance"=some (.builtin "isinstance"):=PyProof.Rows.boot_isinstance
theorem boot_int:bootBuiltins "int"=some (.type "int"):=PyProof.Rows.boot_int
theorem boot_bool:bootBuiltins "bool"=some (.type "bool"):=PyProof.Rows.boot_bool
theorem boot_list:bootBuiltins "list"=some (.type "list"):=PyProof.Rows.boot_list
theorem boot_tuple:bootBuiltins "tuple"=some (.type "tuple"):=PyProof.Rows.boot_tuple
theorem boot_all:bootBuiltins "all"=some (.builtin "all"):=PyProof.Rows.boot_all
theorem boot_sum:bootBuiltins "sum"=some (.builtin "sum"):=PyProof.Rows.boot_sum
theorem boot_max:bootBuiltins "max"=some (.builtin "max"):=PyProof.Rows.boot_max
theorem boot_min:bootBuiltins "min"=some (.builtin "min"):=PyProof.Rows.boot_min
structure Txt (mg:Str→Option Value):Prop where
  isi:mg "isinstance"=none
  int:mg "int"=none
  bool:mg "bool"=none
  list:mg "list"=none
  tuple:mg "tuple"=none
  all:mg "all"=none
  len:mg "len"=none
  sum:mg "sum"=none
  range:mg "range"=none
  max:mg "max"=none
  min:mg "min"=none
  rev:mg "reversed"=none
  zip:mg "zip"=none
  enum:mg "enumerate"=none
section
variable {K:PySem.W.Frag}
theorem kit_ii:PySem.W.kitOne K (.type "int") (.type "int")=some true:=by kernel_rfl
theorem kit_ib:PySem.W.kitOne K (.type "int") (.type "bool")=some false:=by kernel_rfl
theorem kit_bi:PySem.W.kitOne K (.type "bool") (.type "int")=some true:=by kernel_rfl
theorem kit_bb:PySem.W.kitOne K (.type "bool") (.type "bool")=some true:=by kernel_rfl
theorem kit_ni:PySem.W.kitOne K (.type "NoneType") (.type "int")=some false:=by kernel_rfl
theorem kit_si:PySem.W.kitOne K (.type "str") (.type "int")=some false:=by kernel_rfl
theorem kit_li:PySem.W.kitOne K (.type "list") (.type "int")=some false:=by kernel_rfl
theorem kit_ti:PySem.W.kitOne K (.type "tuple") (.type "int")=some false:=by kernel_rfl
theorem kit_di:PySem.W.kitOne K (.type "dict") (.type "int")=some false:=by kernel_rfl
theorem kit_ll:PySem.W.kitOne K (.type "list") (.type "list")=some true:=by kernel_rfl
theorem kit_tt:PySem.W.kitOne K (.type "tuple") (.type "tuple")=some true:=by kernel_rfl
end
inductive Thing (H:Hp):V→Prop where
  | non:Thing H .non
  | bl (b:Bool):Thing H (.bl b)
  | int (i:Int):Thing H (.int i)
  | str (x:Str):Thing H (.str x)
  | lst {a:Addr} {xs:List V} (e:H a=some (.lst xs)):Thing H (.ref a)
  | tup {a:Addr} {xs:List V} (e:H a=some (.tup xs)):Thing H (.ref a)
  | dK {a:Addr} {kvs:List (Key×V)} (e:H a=some (.dK kvs)):Thing H (.ref a)
theorem Thing.keep {H H':Hp} {v:V} (t:Thing H v) (s:Same H H'):Thing H' v:=by
  cases t with
  | non=>exact .non
  | bl b=>exact .bl b
  | int i=>exact .int i
  | str x=>exact .str x
  | lst e=>exact .lst (s _ _ e)
  | tup e=>exact .tup (s _ _ e)
  | dK e=>exact .dK (s _ _ e)
noncomputable def isIntV:V→Bool
  | .int _=>true
  | _=>false
noncomputable def betw (v:V) (lo hi:Int):Bool:=match v with
  | .int i=>decide (lo≤i)&&decide (i≤hi)
  | _=>false
noncomputable def spWhole:Sp:=fun vs H Q _=>∃ v,vs=[v]∧Thing H v∧Q (.bl (isIntV v)) H
noncomputable def spBetw:Sp:=fun vs H Q _=>∃ v lo hi,vs=[v,.int lo,.int hi]∧Thing H v∧Q (.bl (betw v lo hi)) H
noncomputable def spLBetw:Sp:=fun vs H Q _=>∃ a xs lo hi,vs=[.ref a,.int lo,.int hi]∧H a=some (.lst xs)∧xs.length≤1000∧(∀ x∈xs,Thing H x)∧∀ H',Same H H'→Q (.bl (xs.all fun x=>betw x lo hi)) H'
noncomputable def spIsFrame:Sp:=fun vs H Q _=>∃ f a c b ps ws,vs=[.ref f]∧FrAt H f a c b ps ws∧∀ H',Same H H'→Q (.bl true) H'
noncomputable def spNeedFrame:Sp:=fun vs H Q _=>∃ f a c b ps ws,vs=[.ref f]∧FrAt H f a c b ps ws∧∀ H',Same H H'→Q .non H'
theorem betw_nats {ps:List Nat} {lo hi:Nat} (h:∀ p∈ps,lo≤p∧p≤hi):((natV ps).all fun x=>betw x lo hi)=true:=by
  rw [List.all_eq_true]
  intro x hx
  obtain ⟨p,hp,rfl⟩:=List.mem_map.mp hx
  have:=h p hp
  simp only [betw,Bool.and_eq_true,decide_eq_true_eq]
  omega
theorem betw_ints {ws:List Int} {lo hi:Int} (h:∀ p∈ws,lo≤p∧p≤hi):((ws.map V.int).all fun x=>betw x lo hi)=true:=by
  rw [List.all_eq_true]
  intro x hx
  obtain ⟨p,hp,rfl⟩:=List.mem_map.mp hx
  have:=h p hp
  simp only [betw,Bool.and_eq_true,decide_eq_true_eq]
  omega
theorem things_ints {H:Hp} (ws:List Int):∀ x∈ws.map V.int,Thing H x:=fun x hx=>by
  obtain ⟨p,_,rfl⟩:=List.mem_map.mp hx
  exact .int p
theorem things_nats {H:Hp} (ps:List Nat):∀ x∈natV ps,Thing H x:=fun x hx=>by
  obtain ⟨p,_,rfl⟩:=List.mem_map.mp hx
  exact .int p
end Hv
namespace Hv
open PySem L2
noncomputable def top (i : Nat) : Stmt := PySem.Challenge.pw_likehalves_k35_keepers_apart.main.body.getD i (.Pass ⟨0, 0, 0, 0⟩)
noncomputable abbrev sWhole:Stmt:=top 13
noncomputable abbrev sBetw:Stmt:=top 14
noncomputable abbrev sLBetw:Stmt:=top 15
noncomputable abbrev sIsFrame:Stmt:=top 16
noncomputable abbrev sNeedFrame:Stmt:=top 17
noncomputable abbrev sHowMany:Stmt:=top 18
noncomputable abbrev sNeedNumber:Stmt:=top 19
noncomputable abbrev sCut:Stmt:=top 20
noncomputable abbrev sFiguresOf:Stmt:=top 21
noncomputable abbrev sOneMore:Stmt:=top 23
noncomputable abbrev sWaysW:Stmt:=top 24
noncomputable abbrev sWaysParts:Stmt:=top 25
noncomputable abbrev sWaysWith:Stmt:=top 26
noncomputable abbrev sEvenBy:Stmt:=top 27
noncomputable abbrev sCountEven:Stmt:=top 28
noncomputable abbrev sNeedMiss:Stmt:=top 29
noncomputable abbrev sRunning:Stmt:=top 30
noncomputable abbrev sWithin:Stmt:=top 31
noncomputable abbrev sSpreadW:Stmt:=top 32
noncomputable abbrev sCountNear:Stmt:=top 33
noncomputable abbrev sStretches:Stmt:=top 35
noncomputable abbrev sPartBegin:Stmt:=top 36
noncomputable abbrev sWeighted:Stmt:=top 37
noncomputable abbrev sNumberOf:Stmt:=top 38
noncomputable abbrev sNeedPlace:Stmt:=top 40
noncomputable abbrev sTailsOfPart:Stmt:=top 41
noncomputable abbrev sTailsOfParts:Stmt:=top 42
noncomputable abbrev sWaysFromBeginnings:Stmt:=top 43
noncomputable abbrev sCountBegun:Stmt:=top 44
noncomputable abbrev sCountBelow:Stmt:=top 45
noncomputable abbrev sFigureAndRest:Stmt:=top 46
noncomputable abbrev sNumberAt:Stmt:=top 47
noncomputable abbrev sEvenByK:Stmt:=top 48
noncomputable abbrev sNearBy:Stmt:=top 49
noncomputable abbrev sCopyOf:Stmt:=top 51
noncomputable abbrev sWithWeight:Stmt:=top 52
noncomputable abbrev sCell:Stmt:=top 55
noncomputable abbrev sStore:Stmt:=top 56
noncomputable abbrev sTake:Stmt:=top 57
noncomputable abbrev sFrame:Stmt:=top 58
noncomputable abbrev sCopy:Stmt:=top 59
noncomputable abbrev sMany:Stmt:=top 60
noncomputable abbrev sLawPart:Stmt:=top 61
noncomputable abbrev sLawCut:Stmt:=top 62
noncomputable abbrev sLawEven:Stmt:=top 63
noncomputable abbrev sNear:Stmt:=top 64
noncomputable abbrev sLawKind:Stmt:=top 65
noncomputable abbrev sLawDeed:Stmt:=top 66
noncomputable abbrev sLawIsFrom:Stmt:=top 67
noncomputable abbrev sDue:Stmt:=top 68
noncomputable abbrev sLawAsked:Stmt:=top 69
noncomputable abbrev sLawStand:Stmt:=top 70
noncomputable abbrev sLaw:Stmt:=top 71
noncomputable abbrev sKeeperInit:Stmt:=inClass (top 53) 0
noncomputable abbrev sKeeperWeigh:Stmt:=inClass (top 53) 1
noncomputable abbrev sKeeperUndo:Stmt:=inClass (top 53) 2
noncomputable abbrev sKeeperFrame:Stmt:=inClass (top 53) 3
noncomputable abbrev sKeeperNear:Stmt:=inClass (top 53) 4
noncomputable abbrev sKeeperEven:Stmt:=inClass (top 53) 5
noncomputable abbrev sKeeperChanges:Stmt:=inClass (top 53) 6
end Hv
namespace L2
open PySem PySem.Spec PyProof.Rows
section
variable {κ:Type} [DecidableEq κ]
noncomputable def valV (kvs:List (κ×V)) (k:κ):Option V:=(kvs.find? fun kv=>decide (kv.1=k)).map (·.2)
noncomputable def putK (kvs:List (κ×V)) (k:κ) (v:V):List (κ×V) :=
  if (kvs.any fun kv=>decide (kv.1=k))=true then kvs.map (fun kv=>if kv.1=k then (kv.1,v) else kv) else kvs++[(k,v)]
theorem valV_pos {p:κ×V} {r:List (κ×V)} {k:κ} (e:p.1=k):valV (p::r) k=some p.2:=by simp [valV,List.find?_cons,e]
theorem valV_neg {p:κ×V} {r:List (κ×V)} {k:κ} (e:¬ p.1=k):valV (p::r) k=valV r k:=by simp [valV,List.find?_cons,e]
theorem valV_any (k:κ):∀ kvs:List (κ×V),(kvs.any fun kv=>decide (kv.1=k))=(valV kvs k).isSome
  | []=>rfl
  | p::r=>by
    rw [List.any_cons]
    by_cases e:p.1=k
    · simp only [valV_pos e,decide_eq_true e,Bool.true_or,Option.isSome_some]
    · rw [valV_neg e,decide_eq_false e,Bool.false_or];exact valV_any k r
theorem length_putK (kvs:List (κ×V)) (k:κ) (v:V):(putK kvs k v).length≤kvs.length+1:=by
  unfold putK
  split
  · rw [List.length_map];omega
  · rw [List.length_append,List.length_cons,List.length_nil];omega
theorem RelO.isSome_eq {o:Option V} {u:Option Value} (r:RelO o u):o.isSome=u.isSome:=by
  cases o with
  | none=>cases u with
    | none=>rfl
    | some _=>exact (show False from r).elim
  | some _=>cases u with
    | none=>exact (show False from r).elim
    | some _=>rfl
theorem RelO.getD {o:Option V} {u:Option Value} {d:V} {d':Value} (r:RelO o u) (rd:RelV d d'):RelV (o.getD d) (u.getD d'):=by
  cases o with
  | none=>cases u with
    | none=>exact rd
    | some _=>exact (show False from r).elim
  | some _=>cases u with
    | none=>exact (show False from r).elim
    | some _=>exact r
theorem KV.val {kvs:List (κ×V)} {vs:List (κ×Value)} (r:KV kvs vs) (k:κ):RelO (valV kvs k) (valueAt vs k):=by
  unfold KV at r
  induction r with
  | nil=>exact True.intro
  | @cons p q ps qs h t ih =>
    obtain ⟨h1,h2⟩:=h
    by_cases e:p.1=k
    · have e':q.1=k:=h1.symm.trans e
      have b:valueAt (q::qs) k=some q.2:=by simp [valueAt,List.find?_cons,e']
      rw [valV_pos e,b];exact h2
    · have e':¬ q.1=k:=fun z=>e (h1.trans z)
      have b:valueAt (q::qs) k=valueAt qs k:=by simp [valueAt,List.find?_cons,e']
      rw [valV_neg e,b];exact ih
theorem KV.any {kvs:List (κ×V)} {vs:List (κ×Value)} (r:KV kvs vs) (k:κ):(kvs.any fun kv=>decide (kv.1=k))=vs.any fun kv=>decide (kv.1=k):=by
  unfold KV at r
  induction r with
  | nil=>rfl
  | cons h t ih=>rw [List.any_cons,List.any_cons,ih,h.1]
theorem KV.repl {kvs:List (κ×V)} {vs:List (κ×Value)} (r:KV kvs vs) (k:κ) {y:V} {u:Value} (ry:RelV y u) :
    KV (kvs.map fun kv=>if kv.1=k then (kv.1,y) else kv) (vs.map fun kv=>if kv.1=k then (kv.1,u) else kv):=by
  unfold KV at r⊢
  induction r with
  | nil=>exact .nil
  | @cons p q ps qs h t ih =>
    rw [List.map_cons,List.map_cons]
    refine .cons ?_ ih
    obtain ⟨h1,h2⟩:=h
    by_cases e:p.1=k
    · rw [if_pos e,if_pos (h1.symm.trans e)];exact ⟨h1,ry⟩
    · rw [if_neg e,if_neg (fun z=>e (h1.trans z))];exact ⟨h1,h2⟩
theorem KV.put {kvs:List (κ×V)} {vs:List (κ×Value)} (r:KV kvs vs) (k:κ) {y:V} {u:Value} (ry:RelV y u):KV (putK kvs k y) (stored vs k u):=by
  unfold putK stored
  rw [r.any k]
  by_cases e:(vs.any fun kv=>decide (kv.1=k))=true
  · rw [if_pos e,if_pos e];exact r.repl k ry
  · rw [if_neg e,if_neg e];exact Paired.snoc r ⟨rfl,ry⟩
theorem KV.keys {kvs:List (κ×V)} {vs:List (κ×Value)} (r:KV kvs vs):kvs.map (·.1)=vs.map (·.1):=by
  unfold KV at r
  induction r with
  | nil=>rfl
  | cons h t ih=>rw [List.map_cons,List.map_cons,ih,h.1]
theorem KV.length {kvs:List (κ×V)} {vs:List (κ×Value)} (r:KV kvs vs):kvs.length=vs.length:=Paired.length r
end
theorem kV_is {P:Program} {w:World} {k:Key} {u:Value} (r:RelV (kV k) u):(mixKind P w).is k u=true:=by
  cases k with
  | inl i=>obtain ⟨t,e⟩:=(show ∃ t,u=Value.int i t from r);subst e;exact mixKind_int P w i t
  | inr x=>obtain ⟨t,e⟩:=(show ∃ t,u=Value.str x t from r);subst e;exact mixKind_str P w x t
theorem items_are {P:Program} {w:World}:∀ {ks:List Key} {us:List Value},Vals (ks.map kV) us→ItemsAre (mixKind P w) ks us
  | [],_,r=>by rw [List.map_nil] at r;cases r;exact .nil
  | k::ks,_,r=>by
    rw [List.map_cons] at r
    cases r with
    | cons h t=>exact .cons (kV_is h) (items_are t)
noncomputable abbrev KT (H:Hp):List (List Key×V)→List (List Key×Addr×Value)→Prop:=Paired fun p q=>p.1=q.1∧H q.2.1=some (.tup (p.1.map kV))∧RelV p.2 q.2.2
theorem KT.val {H:Hp} {kvs:List (List Key×V)} {xs:List (List Key×Addr×Value)} (r:KT H kvs xs) (k:List Key):RelO (valV kvs k) ((atKey xs k).map (·.2)):=by
  induction r with
  | nil=>exact True.intro
  | @cons p q ps qs h t ih =>
    obtain ⟨h1,_,h2⟩:=h
    by_cases e:p.1=k
    · have e':q.1=k:=h1.symm.trans e
      have b:atKey (q::qs) k=some q.2:=by simp [atKey,List.find?_cons,e']
      rw [valV_pos e,b];exact h2
    · have e':¬ q.1=k:=fun z=>e (h1.trans z)
      have b:atKey (q::qs) k=atKey qs k:=by simp [atKey,List.find?_cons,e']
      rw [valV_neg e,b];exact ih
theorem KT.repl {H:Hp} {kvs:List (List Key×V)} {xs:List (List Key×Addr×Value)} (r:KT H kvs xs) (k:List Key) {y:V} {u:Value} (ry:RelV y u) :
    KT H (kvs.map fun kv=>if kv.1=k then (kv.1,y) else kv) (xs.map (putAt k u)):=by
  induction r with
  | nil=>exact .nil
  | @cons p q ps qs h t ih =>
    rw [List.map_cons,List.map_cons]
    refine .cons ?_ ih
    obtain ⟨h1,h2,h3⟩:=h
    unfold putAt
    by_cases e:p.1=k
    · rw [if_pos e,if_pos (h1.symm.trans e)];exact ⟨h1,h2,ry⟩
    · rw [if_neg e,if_neg (fun z=>e (h1.trans z))];exact ⟨h1,h2,h3⟩
theorem KT.put {H:Hp} {kvs:List (List Key×V)} {xs:List (List Key×Addr×Value)} (r:KT H kvs xs) (k:List Key) {b:Addr} {y:V} {u:Value} (hb:H b=some (.tup (k.map kV))) (ry:RelV y u) :
    KT H (putK kvs k y) (storedH xs k b u):=by
  have e:(kvs.any fun kv=>decide (kv.1=k))=(atKey xs k).isSome:=by
    rw [valV_any,(r.val k).isSome_eq,Option.isSome_map]
  unfold putK storedH
  rw [e]
  by_cases q:(atKey xs k).isSome=true
  · rw [if_pos q,if_pos q];exact r.repl k ry
  · rw [if_neg q,if_neg q];exact Paired.snoc r ⟨rfl,hb,ry⟩
theorem KT.keeps {H H':Hp} {kvs:List (List Key×V)} {xs:List (List Key×Addr×Value)} (r:KT H kvs xs) (ht:∀ b ys,H b=some (.tup ys)→H' b=some (.tup ys)):KT H' kvs xs :=
  Paired.mapP r fun _ _ z=>⟨z.1,ht _ _ z.2.1,z.2.2⟩
section
variable {P:Program} {w:World} {H:Hp} {h:Heap} {a:Addr}
theorem rd_of {u:HO} (ok:HOk P w H h) (e:Rd H a u):ObjOk P w H h a u:=e.ok ok
theorem dk_rd {kvs:List (Key×V)} (ok:HOk P w H h) (e:Rd H a (.dK kvs)):kvs.length≤sizeLine∧(a==sysModules)=false∧∃ vs,KV kvs vs∧h.DictOf (mixKind P w) a vs :=
  show ObjOk P w H h a (.dK kvs) from rd_of ok e
theorem dk_of {kvs:List (Key×V)} (ok:HOk P w H h) (e:H a=some (.dK kvs)):kvs.length≤sizeLine∧(a==sysModules)=false∧∃ vs,KV kvs vs∧h.DictOf (mixKind P w) a vs:=dk_rd ok (.inl e)
theorem key_of {ks:List Key} (ok:HOk P w H h) (e:H a=some (.tup (ks.map kV))):(tupleKind (mixKind P w)).is h ks a:=by
  obtain ⟨_,its,r,o,h1,h2,n,h3⟩:=(show ObjOk P w H h a (.tup (ks.map kV)) from ok a _ e)
  exact ⟨o,its.toArray,n,h1,h2,h3,by simpa using items_are r⟩
theorem dt_rd {kvs:List (List Key×V)} (ok:HOk P w H h) (e:Rd H a (.dT kvs)):kvs.length≤sizeLine∧(a==sysModules)=false∧
    ∃ xs,KT H kvs xs∧h.DictOfH (tupleKind (mixKind P w)) a xs:=by
  obtain ⟨z,y,xs,r,o,es,ep,h1,h2,h3,h4,h5⟩:=(show ObjOk P w H h a (.dT kvs) from rd_of ok e)
  refine ⟨z,y,xs,r,o,es,ep,h1,h2,h3,h4,fun x hx=>?_,h5⟩
  have all:∀ {l:List (List Key×V)} {m:List (List Key×Addr×Value)},KT H l m→∀ x∈m,(tupleKind (mixKind P w)).is h x.1 x.2.1:=by
    intro l m q
    induction q with
    | nil=>intro x hx;exact nomatch hx
    | @cons p q ps qs hq t ih =>
      intro x hx
      rcases List.mem_cons.mp hx with e | hx
      · subst e
        exact key_of ok (by rw [← hq.1];exact hq.2.1)
      · exact ih x hx
  exact all r x hx
theorem dt_of {kvs:List (List Key×V)} (ok:HOk P w H h) (e:H a=some (.dT kvs)):kvs.length≤sizeLine∧(a==sysModules)=false∧
    ∃ xs,KT H kvs xs∧h.DictOfH (tupleKind (mixKind P w)) a xs:=dt_rd ok (.inl e)
end
noncomputable def DGet (H:Hp) (a:Addr) (y:V) (r:Option V):Prop :=
  (∃ kvs k,Rd H a (.dK kvs)∧y=kV k∧r=valV kvs k)∨∃ kvs k b,Rd H a (.dT kvs)∧y=.ref b∧H b=some (.tup (k.map kV))∧r=valV kvs k
noncomputable def DPut (H:Hp) (a:Addr) (y v:V) (H':Hp):Prop :=
  (∃ kvs k,H a=some (.dK kvs)∧y=kV k∧kvs.length<sizeLine∧H'=upd H a (.dK (putK kvs k v)))∨
  ∃ kvs k b,H a=some (.dT kvs)∧y=.ref b∧H b=some (.tup (k.map kV))∧kvs.length<sizeLine∧H'=upd H a (.dT (putK kvs k v))
theorem DPut.k {H:Hp} {a:Addr} {kvs:List (Key×V)} {k:Key} {v:V} (e:H a=some (.dK kvs)) (hl:kvs.length<sizeLine):DPut H a (kV k) v (upd H a (.dK (putK kvs k v))):=.inl ⟨kvs,k,e,rfl,hl,rfl⟩
section
variable {X:Cx} {pins:List (Addr×Obj)} {σ:St} {H:Hp} {s:Shared} {a:Addr} {y v:V} {u r:Value} {o:Option V} {A:Around} {E:Value→Shared→Prop}
theorem Inv.big (I:Inv X pins σ H s):sysModules<s.heap.objs.size:=by
  have h:mainGlobals<s.heap.objs.size:=(I.mod.glob.keeps I.bk).lt
  exact Nat.lt_trans (by decide) h
theorem d_getItem {Q:Value→Shared→Prop} (hu:A.units+1<cLine) (I:Inv X pins σ H s) (g:DGet H a y (some v)) (ry:RelV y u) (h:∀ w' s',Inv X pins σ H s'→RelV v w'→Q w' s') :
    wpAny (model X.prog X.w) A (getItem (.ref a) u) Q E s:=by
  rcases g with ⟨kvs,k,e,ey,l⟩ | ⟨kvs,k,b,e,ey,eb,l⟩
  · subst ey
    obtain ⟨z,hd,vs,rel,dd⟩:=dk_rd I.hok e
    obtain ⟨w',hw,rw'⟩:=RelO.some_of (v:=v) (o:=valueAt vs k) (by rw [l];exact rel.val k)
    exact wpAny_getItem_of (kV_is ry) dd.mapOf hw (h w' _ (I.tok _) rw')
  · subst ey
    cases (show u=Value.ref b from ry)
    obtain ⟨z,hd,xs,rel,dd⟩:=dt_rd I.hok e
    obtain ⟨w',hw,rw'⟩:=RelO.some_of (v:=v) (o:=(atKey xs k).map (·.2)) (by rw [l];exact rel.val k)
    obtain ⟨p,hp,hp2⟩:=Option.map_eq_some_iff.mp hw
    refine wpAny_getItem_heap (tupleKind_room_in1 hu) (key_of I.hok eb) dd hp ?_
    rw [hp2]
    exact h w' _ (I.tok _) rw'
theorem d_write {h':Heap} {t':Nat} {ob:HO} (I:Inv X pins σ H s) (mu:Mut (H a)) (hs:Heap.SameBut a s.heap h') (he:∃ q,h'.get? a=some q) (new:ObjOk X.prog X.w (upd H a ob) h' a ob) :
    Inv X pins σ (upd H a ob) {s with heap:=h',toks:=t'} :=
  I.write (x:=a) (e:=a) mu (.inl rfl) (fun b q hb z=>(hs.2 b hb).trans z) he new
theorem dk_new {P:Program} {w:World} {H':Hp} {h':Heap} {kvs:List (Key×V)} {vs:List (Key×Value)} (z:kvs.length≤sizeLine) (hd:(a==sysModules)=false) (rel:KV kvs vs) (dd:h'.DictOf (mixKind P w) a vs) :
    ObjOk P w H' h' a (.dK kvs):=⟨z,hd,vs,rel,dd⟩
theorem d_setItem {H':Hp} {Q:Unit→Shared→Prop} (hu:A.units+1<cLine) (I:Inv X pins σ H s) (g:DPut H a y v H') (ry:RelV y u) (rv:RelV v r) (h:∀ s',Inv X pins σ H' s'→Q () s') :
    wpAny (model X.prog X.w) A (setItem (.ref a) u r) Q E s:=by
  rcases g with ⟨kvs,k,e,ey,l,eH⟩ | ⟨kvs,k,b,e,ey,eb,l,eH⟩
  · subst ey eH
    obtain ⟨z,hd,vs,rel,dd⟩:=dk_of I.hok e
    have hz:vs.length≤sizeLine:=by rw [← rel.length];exact z
    have hl:(putK kvs k v).length≤sizeLine:=by have:=length_putK kvs k v;omega
    refine wpAny_setItem_pairs (hsz:=hz) (kV_is ry) dd fun h' dd' hs=>h _ ?_
    have he:∃ q,h'.get? a=some q:=let ⟨q,_,_,hq,_⟩:=dd';⟨q,hq⟩
    exact d_write I (by rw [e];exact True.intro) hs he (dk_new hl hd (rel.put k rv) dd')
  · subst ey eH
    cases (show u=Value.ref b from ry)
    obtain ⟨z,hd,xs,rel,dd⟩:=dt_of I.hok e
    have hz:xs.length≤sizeLine:=by rw [← Paired.length rel];exact z
    have hl:(putK kvs k v).length≤sizeLine:=by have:=length_putK kvs k v;omega
    refine wpAny_setItem_heap (hsz:=hz) (tupleKind_room_in1 hu) (key_of I.hok eb) dd fun h' dd' hs=>h _ ?_
    obtain ⟨q,es,ep,hq,h2,h3,h4,_,h5⟩:=dd'
    refine d_write I (by rw [e];exact True.intro) hs ⟨q,hq⟩ ⟨hl,hd,_,(rel.put k eb rv).keeps fun c ys ec=>?_,q,es,ep,hq,h2,h3,h4,h5⟩
    rw [upd_ne (ne_of ec e (fun z=>nomatch z))]
    exact ec
end
section
variable {X:Cx} {pins:List (Addr×Obj)} {σ:St} {H:Hp} {s:Shared} {a:Addr} {kvs:List (Key×V)} {k:Key} {u:Value} {A:Around} {E:Value→Shared→Prop}
end
noncomputable def NoSl (i:Expr):Prop:=∀ ov iv,subscripted i false ov iv=operate [ov,iv] (getItem ov iv)
theorem subD_of {prog:Program} {w:World} {A:Around} {E:Value→Shared→Prop} {s:Shared} {env:Env} {value slice:Expr} {pos:Pos} {T id:String} {Q:Value→Shared→Prop}
    (hl:typeLookup (.type T) "__getitem__"=pure (some (.builtin id))) (hs:NoSl slice)
    (h:wpAny (model prog w) A (eval value env) (fun o s₁=>wpAny (model prog w) A (eval slice env) (fun i s₂=>s₂.TypeIs o T∧wpAny (model prog w) A (getItem o i) Q E s₂) E s₁) E s) :
    wpAny (model prog w) A (eval (.Subscript value slice pos) env) Q E s:=by
  refine Subscript_ (wpAny_mono h (fun o s₁ h₁=>wpAny_mono h₁ (fun i s₂ h₂=>?_) fun _ _ x=>x) fun _ _ x=>x)
  obtain ⟨hT,h₂⟩:=h₂
  unfold subscriptTail
  refine wpAny_bind ?_
  rw [getitemInPython_of_ne hT.not_modules]
  refine wpAny_bind (wpAny_specialOf hT hl ?_)
  have fin:wpAny (model prog w) A (subscripted slice false o i) (fun r s₃=>wpAny (model prog w) A (letTemporaryGo value o r>>=fun _=>pure r) Q E s₃) E s₂:=by
    rw [hs o i]
    exact wpAny_operating (wpAny_mono h₂ (fun r s₃ h₃=>wpAny_bind (wpAny_letTemporaryGo (wpAny_pure h₃))) fun _ _ x=>x)
  first
    | exact wpAny_pure (wpAny_bind fin)
    | exact wpAny_bind (wpAny_pure (wpAny_bind fin))
    | exact wpAny_bind fin
theorem dict_typeIs {X:Cx} {pins:List (Addr×Obj)} {σ:St} {H:Hp} {s:Shared} {a:Addr} {y:V} {o:Option V} (I:Inv X pins σ H s) (g:DGet H a y o):s.TypeIs (.ref a) "dict":=by
  rcases g with ⟨kvs,k,e,_,_⟩ | ⟨kvs,k,b,e,_,_,_⟩
  · obtain ⟨_,_,vs,_,dd⟩:=dk_rd I.hok e
    exact dd.typeIs
  · obtain ⟨_,_,xs,_,dd⟩:=dt_rd I.hok e
    exact dd.typeIs
noncomputable def tDGet (td ty:TE):TE:=fun σ H Q=>td σ H fun x H1=>ty σ H1 fun y H2=>∃ a v,x=.ref a∧DGet H2 a y (some v)∧Q v H2
noncomputable def sDPut (td ty tv:TE):TS:=fun D σ H=>tv σ H fun v H1=>td σ H1 fun x H2=>ty σ H2 fun y H3=>∃ a H4,x=.ref a∧DPut H3 a y v H4∧D.nx σ H4
section
variable {X:Cx} {o i e value:Expr} {pos pos' tpos:Pos} {td ty tv:TE}
theorem pe_dget (hu:X.A.units+1<cLine) (ho:PE X o td) (hi:PE X i ty) (hs:NoSl i):PE X (.Subscript o i pos) (tDGet td ty):=by
  intro pins s σ H Q I h
  refine subD_of PySem.F.slot_dict_getitem.lookup hs (thn (ho pins s σ H _ I h) fun u s1 ⟨x,H1,I1,rx,q1⟩=>thn (hi pins s1 σ H1 _ I1 q1) fun iv s2 ⟨y,H2,I2,ry,a,v,ex,g,q2⟩=>?_)
  subst ex
  obtain rfl:u=Value.ref a:=rx
  exact ⟨dict_typeIs I2 g,d_getItem hu I2 g ry fun w' s3 I3 rw'=>⟨v,H2,I3,rw',q2⟩⟩
theorem ps_dput (hu:X.A.units+1<cLine) (ho:PE X o td) (hi:PE X i ty) (hv:PE X value tv) (hs:swapsWith value (some (.Subscript o i pos')) pos.line X.env=pure false) :
    PS X (.Assign [.Subscript o i pos'] value pos) (sDPut td ty tv):=by
  intro pins s σ H D I h
  refine wpAny_Assign_Subscript (thn (hv pins s σ H _ I h) fun r s1 ⟨v,H1,I1,rv,q1⟩=>thn (ho pins s1 σ H1 _ I1 q1) fun u s2 ⟨x,H2,I2,rx,q2⟩=>thn (hi pins s2 σ H2 _ I2 q2) fun iv s3 ⟨y,H3,I3,ry,a,H4,ex,g,q3⟩=>?_) hs
  subst ex
  obtain rfl:u=Value.ref a:=rx
  exact d_setItem hu I3 g ry rv fun s4 I4=>⟨σ,H4,I4,q3⟩
end
theorem dk_empty {P:Program} {w:World} {H:Hp} (h:Heap) (hb:sysModules<h.objs.size):ObjOk P w H (h.push {cls:=.type "dict",data:=.dict #[]}) h.objs.size (.dK []) :=
  ⟨Nat.zero_le _,beq_eq_false_iff_ne.mpr (Ne.symm (Nat.ne_of_lt hb)),[],.nil,Heap.DictOf.new h⟩
noncomputable def tDNewK:TE:=fun _ H Q=>∀ p,H p=none→Q (.ref p) (upd H p (.dK []))
section
variable {X:Cx} {pos:Pos}
theorem pe_dnewK:PE X (.Dict [] [] pos) tDNewK:=fun pins s σ H Q I h =>
  wpAny_Dict_empty ⟨.ref s.heap.objs.size,_,I.laid (a:=s.heap.objs.size) (o:=.dK []) (t':=s.toks) (fun _ _ q=>Heap.get?_push_of_some _ q) (Nat.le_refl _) (dk_empty s.heap I.big),rfl,h _ (I.hok.fresh (Nat.le_refl _))⟩
end
noncomputable def tPairs:List (TE×TE)→St→Hp→(List (V×V)→Hp→Prop)→Prop
  | [],_,H,Q=>Q [] H
  | (tk,tv)::r,σ,H,Q=>tk σ H fun x H1=>tv σ H1 fun y H2=>tPairs r σ H2 fun ps H3=>Q ((x,y)::ps) H3
noncomputable abbrev VV:List (V×V)→List (Value×Value)→Prop:=Paired fun p q=>RelV p.1 q.1∧RelV p.2 q.2
noncomputable def PPs (X:Cx) (pos:Pos) (keys:List (Option Expr)) (values:List Expr) (trs:List (TE×TE)):Prop :=
  ∀ (pins:List (Addr×Obj)) (s:Shared) (σ:St) (H:Hp) (Q:List (V×V)→Hp→Prop),Inv X pins σ H s→tPairs trs σ H Q→
    wpAny (model X.prog X.w) X.A (evalPairs (pairTrees keys values X.env pos)) (fun vs s'=>∃ ps H',Inv X pins σ H' s'∧VV ps vs∧Q ps H') X.xe s
theorem pps_nil {X:Cx} {pos:Pos}:PPs X pos [] [] []:=fun pins s σ H Q I h=>pairTrees_nil_walk ⟨[],H,I,.nil,h⟩
theorem pps_cons {X:Cx} {pos:Pos} {k v:Expr} {ks:List (Option Expr)} {vs:List Expr} {tk tv:TE} {trs:List (TE×TE)} (hk:PE X k tk) (hv:PE X v tv) (hr:PPs X pos ks vs trs) :
    PPs X pos (some k::ks) (v::vs) ((tk,tv)::trs):=fun pins s σ H Q I h =>
  pairTrees_cons_walk (thn (hk pins s σ H _ I h) fun u s1 ⟨x,H1,I1,rx,q1⟩=>thn (hv pins s1 σ H1 _ I1 q1) fun w2 s2 ⟨y,H2,I2,ry,q2⟩ =>
    thn (hr pins s2 σ H2 _ I2 q2) fun ws s3 ⟨ps,H3,I3,rel,q3⟩=>⟨(x,y)::ps,H3,I3,.cons ⟨rx,ry⟩ rel,q3⟩)
noncomputable def mergeK (kvs more:List (Key×V)):List (Key×V):=more.foldl (fun acc kv=>putK acc kv.1 kv.2) kvs
theorem KV.merge:∀ {more:List (Key×V)} {rs:List (Key×Value)} {kvs:List (Key×V)} {vs:List (Key×Value)},KV more rs→KV kvs vs→KV (mergeK kvs more) (merged vs rs):=by
  intro more rs kvs vs r
  unfold KV at r
  induction r generalizing kvs vs with
  | nil=>intro q;exact q
  | @cons p q ps qs h t ih =>
    intro r0
    have e:KV (putK kvs p.1 p.2) (stored vs q.1 q.2):=by
      have:=r0.put p.1 h.2
      rw [← h.1];exact this
    exact ih e
theorem length_mergeK:∀ (more kvs:List (Key×V)),(mergeK kvs more).length≤kvs.length+more.length
  | [],kvs=>by show kvs.length≤kvs.length+0;omega
  | p::r,kvs=>by
    have h1:=length_mergeK r (putK kvs p.1 p.2)
    have h2:=length_putK kvs p.1 p.2
    show (mergeK (putK kvs p.1 p.2) r).length≤_
    rw [List.length_cons];omega
theorem carries_of {P:Program} {w:World}:∀ {kvs:List (Key×V)} {ws:List (Value×Value)},VV (kvs.map fun kv=>(kV kv.1,kv.2)) ws→∃ rs,Carries (mixKind P w) ws rs∧KV kvs rs
  | [],_,r=>by rw [List.map_nil] at r;cases r;exact ⟨[],True.intro,.nil⟩
  | p::kvs,_,r=>by
    rw [List.map_cons] at r
    cases r with
    | @cons a b as bs h t =>
      obtain ⟨rs,c,q⟩:=carries_of (P:=P) (w:=w) t
      obtain ⟨b1,b2⟩:=b
      exact ⟨(p.1,b2)::rs,⟨kV_is h.1,rfl,c⟩,.cons ⟨rfl,h.2⟩ q⟩
noncomputable def tDisp (trs:List (TE×TE)):TE:=fun σ H Q=>∀ p,H p=none→tPairs trs σ (upd H p (.dK [])) fun ps H2=>H2 p=some (.dK [])∧∃ kvs:List (Key×V),ps=kvs.map (fun kv=>(kV kv.1,kv.2))∧kvs.length≤15∧Q (.ref p) (upd H2 p (.dK (mergeK [] kvs)))
theorem pe_disp {X:Cx} {pos:Pos} {keys:List (Option Expr)} {values:List Expr} {trs:List (TE×TE)} (h:PPs X pos keys values trs) (hall:keys.all (·.isSome)=true) (hl:keys.length=values.length) (h0:keys≠[])
    (h15:keys.length≤15):PE X (.Dict keys values pos) (tDisp trs):=by
  intro pins s σ H Q I q
  have hn:=I.hok.fresh (Nat.le_refl s.heap.objs.size)
  have I1:=I.laid (a:=s.heap.objs.size) (o:=.dK []) (h':=s.heap.push {cls:=.type "dict",data:=.dict #[]}) (t':=s.toks) (fun _ _ q=>Heap.get?_push_of_some _ q) (Nat.le_refl _) (dk_empty s.heap I.big)
  refine wpAny_Dict_walk (knd:=mixKind X.prog X.w) hall hl h0 h15 (thn (h pins _ σ _ _ I1 (q _ hn)) fun ws s2 ⟨ps,H2,I2,rel,e,kvs,ep,lk,q2⟩=>?_)
  subst ep
  obtain ⟨rs,c,rk⟩:=carries_of (P:=X.prog) (w:=X.w) rel
  obtain ⟨z,hd,vs0,r0,dd⟩:=dk_of I2.hok e
  cases r0
  refine ⟨rs,c,dd,fun h' dd' hs=>⟨.ref s.heap.objs.size,_,?_,rfl,q2⟩⟩
  have hz:(mergeK [] kvs).length≤sizeLine:=by
    have h1:=length_mergeK kvs []
    rw [List.length_nil] at h1
    rw [sizeLine_eq];omega
  have he:∃ q,h'.get? s.heap.objs.size=some q:=let ⟨q,_,_,hq,_⟩:=dd';⟨q,hq⟩
  exact d_write I2 (by rw [e];exact True.intro) hs he (dk_new hz hd (rk.merge .nil) dd')
structure M2 (X:Cx) (o:Expr) (m:Str) (apos:Pos) (e f:Expr) (cpos:Pos):Prop where
  base:attributeBase o m X.env (eval o X.env)=eval o X.env
  few:((backTo cpos (starEach [e,f] X.env)).all (fun x=>!x.1)&&(backToKw cpos (keywordEach [] X.env)).all (fun x=>x.1.isSome)
    && decide (([e,f]:List Expr).length+([]:List Keyword).length+(if ([]:List Keyword).isEmpty then 0 else 1)<30))=true
  line:(apos.endLine==cpos.line)=true
  trees:backTo cpos (starEach [e,f] X.env)=[(false,eval e X.env),(false,eval f X.env)]
noncomputable def IsD (H:Hp) (a:Addr):Prop:=(∃ kvs,Rd H a (.dK kvs))∨∃ kvs,Rd H a (.dT kvs)
theorem isD_at {X:Cx} {pins:List (Addr×Obj)} {σ:St} {H:Hp} {s:Shared} {a:Addr} (I:Inv X pins σ H s) (d:IsD H a) :
    s.TypeIs (.ref a) "dict"∧(∀ b,Value.ref a=.ref b→∃ ob,s.heap.get? b=some ob∧ob.dict=none)∧(a==sysModules)=false:=by
  rcases d with ⟨kvs,e⟩ | ⟨kvs,e⟩
  · obtain ⟨_,hd,vs,_,dd⟩:=dk_rd I.hok e
    refine ⟨dd.typeIs,fun b q=>?_,hd⟩
    cases q
    obtain ⟨ob,_,_,h1,h2,_⟩:=dd
    exact ⟨ob,h1,h2.2.1⟩
  · obtain ⟨_,hd,xs,_,dd⟩:=dt_rd I.hok e
    refine ⟨dd.typeIs,fun b q=>?_,hd⟩
    cases q
    obtain ⟨ob,_,_,h1,h2,_⟩:=dd
    exact ⟨ob,h1,h2.2.1⟩
section
variable {X:Cx} {pins:List (Addr×Obj)} {σ:St} {H:Hp} {s:Shared} {a:Addr} {y d:V} {u r:Value} {o:Option V} {A:Around} {E:Value→Shared→Prop}
theorem d_get2 {Q:Value→Shared→Prop} (hu:A.units+1<cLine) (I:Inv X pins σ H s) (g:DGet H a y o) (ry:RelV y u) (rd:RelV d r) (h:∀ w' s',Inv X pins σ H s'→RelV (o.getD d) w'→Q w' s') :
    wpAny (model X.prog X.w) A (call (.builtin "dict.get") [.ref a,u,r]) Q E s:=by
  rcases g with ⟨kvs,k,e,ey,l⟩ | ⟨kvs,k,b,e,ey,eb,l⟩
  · subst ey
    obtain ⟨z,hd,vs,rel,dd⟩:=dk_rd I.hok e
    refine call_meetsIn PySem.F.slot_dict_get dd.typeIs PySem.F.entry_dict_get (PySem.F.args_dict_get_3 _ _ _) (meets_dict_get_default (mixKind X.prog X.w) a (kV_is ry) hd r) ⟨_,dd.mapOf,h _ _ (I.tok _) ?_⟩
    rw [l]
    exact (rel.val k).getD rd
  · subst ey
    cases (show u=Value.ref b from ry)
    obtain ⟨z,hd,xs,rel,dd⟩:=dt_rd I.hok e
    refine call_meetsIn PySem.F.slot_dict_get dd.typeIs PySem.F.entry_dict_get (PySem.F.args_dict_get_3 _ _ _) (meetsH_dict_get_default (tupleKind (mixKind X.prog X.w)) a b hd r) ⟨tupleKind_room_in1 hu,k,xs,key_of I.hok eb,dd,h _ _ (I.tok _) ?_⟩
    rw [l]
    exact (rel.val k).getD rd
end
noncomputable def tDGet2 (td ty tx:TE):TE:=fun σ H Q=>td σ H fun x H1=>∃ a,x=.ref a∧IsD H1 a∧ty σ H1 fun y H2=>tx σ H2 fun z H3=>∃ o,DGet H3 a y o∧Q (o.getD z) H3
section
variable {X:Cx} {o e f:Expr} {apos cpos:Pos} {td ty tx:TE}
theorem pe_dget2 (hu:X.A.units+1<cLine) (ho:PE X o td) (he:PE X e ty) (hf:PE X f tx) (m:M2 X o "get" apos e f cpos):PE X (.Call (.Attribute o "get" apos) [e,f] [] cpos) (tDGet2 td ty tx):=by
  intro pins s σ H Q I h
  refine wpAny_Call_method m.base m.few m.line PySem.F.plainAttrs_dict PySem.F.slot_dict_get PySem.F.type_dict_get (thn (ho pins s σ H _ I h) fun u s1 ⟨x,H1,I1,rx,a,ex,d,q1⟩=>?_)
  subst ex
  obtain rfl:u=Value.ref a:=rx
  obtain ⟨t1,t2,_⟩:=isD_at I1 d
  refine ⟨t1,t2,?_⟩
  rw [m.trees]
  refine Calls.callWith_builtin rfl (Calls.evalArgs_plain (Calls.spliced_cons (thn (he pins s1 σ H1 _ I1 q1) fun iv s2 ⟨y,H2,I2,ry,q2⟩ =>
    Calls.spliced_cons (thn (hf pins s2 σ H2 _ I2 q2) fun fv s3 ⟨z,H3,I3,rz,ov,g,q3⟩=>Calls.spliced_nil ?_))))
  exact d_get2 hu I3 g ry rz fun w' s4 I4 rw'=>⟨_,H3,I4,rw',q3⟩
end
section
variable {X:Cx} {pins:List (Addr×Obj)} {σ:St} {H:Hp} {s:Shared} {a:Addr} {kvs:List (Key×V)} {A:Around} {E:Value→Shared→Prop}
end
section
variable {X:Cx} {pins:List (Addr×Obj)} {σ:St} {H:Hp} {s:Shared} {a:Addr} {y:V} {u:Value} {A:Around} {E:Value→Shared→Prop}
end
end L2
namespace L2
open PySem PySem.Spec PyProof.Rows
section
variable {X:Cx}
end
section
variable {κ:Type} [DecidableEq κ]
end
end L2
namespace L2
open PySem PySem.Spec PyProof.Rows
section
variable {X:Cx}
theorem its_int {ns:List Int} {its:List Value} (rv:Vals (ns.map V.int) its) {i:Nat} {v:Value} (hv:its[i]?=some v):∃ n t,ns[i]?=some n∧v=.int n t:=by
  cases eb:ns[i]? with
  | none =>
    have:=rv.none_of (i:=i) (by rw [List.getElem?_map,eb];rfl)
    rw [this] at hv;cases hv
  | some b =>
    obtain ⟨u,hu,ru⟩:=rv.get (i:=i) (x:=.int b) (by rw [List.getElem?_map,eb];rfl)
    rw [hu] at hv;cases hv
    obtain ⟨t,rfl⟩:=ru
    exact ⟨b,t,rfl,rfl⟩
theorem call_maxL (hc:X.calm=true):CallR X (.builtin "max") (fun xs H Q=>∃ (p:Addr) (ns:List Int),xs=[.ref p]∧SqL X.K H p (ns.map V.int)∧0<ns.length∧Q (.int (Ma.maxL ns)) H):=by
  intro pins s σ H xs us Q I r h
  obtain ⟨p,ns,rfl,hq,hne,q⟩:=h
  obtain ⟨u,rfl,rx⟩:=vals1 r
  cases rx
  obtain ⟨its,rv,pl,hz⟩:=I.list hq
  have hl:=pl.isList
  have hlt:p<s.heap.objs.size:=by obtain ⟨_,e,_⟩:=hl;exact Heap.lt_size e
  have hn:its.toArray.size=ns.length:=by rw [List.size_toArray,← rv.length,List.length_map]
  have hval:∀ (i:Nat) (v:Value),its.toArray[i]?=some v→∃ t,v=.int ((fun i=>(ns[i]?).getD 0) i) t:=fun i v hP=>by
    obtain ⟨n,t,e,rfl⟩:=its_int rv (i:=i) (v:=v) (by simpa using hP)
    exact ⟨t,by simp [e]⟩
  refine call_max_walk (wpAny_pyIter_list hl ?_)
  refine ⟨_,_,_,_,_,_,_,rfl,Walks.list (A:=X.A.in1) (I.ok.hd hc) s.heap.objs.size p (Nat.ne_of_lt hlt) its.toArray,⟨⟨_,Heap.get?_push_size _ rfl,rfl,rfl⟩,hl.push _⟩,fun b hb'=>?_,by lia,CmpOf.ints_gt (fun i=>(ns[i]?).getD 0) hval,fun v h' tk hP hk=>?_⟩
  · show b<(s.heap.push _).objs.size
    rw [Heap.size_push]
    rcases List.mem_cons.mp hb' with rfl | hb'
    · exact Nat.lt_succ_self _
    · have e:b=p:=by simpa using hb'
      rw [e];exact Nat.lt_succ_of_lt hlt
  · rw [hn] at hP
    have ab:=argBest_gt (fun i=>(ns[i]?).getD 0) (ns.length - 1)
    obtain ⟨n,t,e,rfl⟩:=its_int rv (i:=argBest (fun i j=>decide ((ns[i]?).getD 0>(ns[j]?).getD 0)) (ns.length - 1)) (v:=v) (by simpa using hP)
    have em:n=Ma.maxL ns:=Ma.maxL_uniq (List.mem_of_getElem? e) fun m hm=>by
      obtain ⟨j,hj⟩:=List.getElem?_of_mem hm
      have hjl:=(List.getElem?_eq_some_iff.mp hj).1
      have a2:=ab.2 j (by lia)
      simp only [hj,e,Option.getD_some] at a2
      exact a2
    subst em
    exact ⟨.int _,H,(show Inv X pins σ H {s with heap:=h',toks:=tk} from seen I hk),⟨_,rfl⟩,q⟩
theorem call_minL (hc:X.calm=true):CallR X (.builtin "min") (fun xs H Q=>∃ (p:Addr) (ns:List Int),xs=[.ref p]∧SqL X.K H p (ns.map V.int)∧0<ns.length∧Q (.int (Ma.minL ns)) H):=by
  intro pins s σ H xs us Q I r h
  obtain ⟨p,ns,rfl,hq,hne,q⟩:=h
  obtain ⟨u,rfl,rx⟩:=vals1 r
  cases rx
  obtain ⟨its,rv,pl,hz⟩:=I.list hq
  have hl:=pl.isList
  have hlt:p<s.heap.objs.size:=by obtain ⟨_,e,_⟩:=hl;exact Heap.lt_size e
  have hn:its.toArray.size=ns.length:=by rw [List.size_toArray,← rv.length,List.length_map]
  have hval:∀ (i:Nat) (v:Value),its.toArray[i]?=some v→∃ t,v=.int ((fun i=>(ns[i]?).getD 0) i) t:=fun i v hP=>by
    obtain ⟨n,t,e,rfl⟩:=its_int rv (i:=i) (v:=v) (by simpa using hP)
    exact ⟨t,by simp [e]⟩
  refine call_min_walk (wpAny_pyIter_list hl ?_)
  refine ⟨_,_,_,_,_,_,_,rfl,Walks.list (A:=X.A.in1) (I.ok.hd hc) s.heap.objs.size p (Nat.ne_of_lt hlt) its.toArray,⟨⟨_,Heap.get?_push_size _ rfl,rfl,rfl⟩,hl.push _⟩,fun b hb'=>?_,by lia,CmpOf.ints_lt (fun i=>(ns[i]?).getD 0) hval,fun v h' tk hP hk=>?_⟩
  · show b<(s.heap.push _).objs.size
    rw [Heap.size_push]
    rcases List.mem_cons.mp hb' with rfl | hb'
    · exact Nat.lt_succ_self _
    · have e:b=p:=by simpa using hb'
      rw [e];exact Nat.lt_succ_of_lt hlt
  · rw [hn] at hP
    have ab:=argBest_lt (fun i=>(ns[i]?).getD 0) (ns.length - 1)
    obtain ⟨n,t,e,rfl⟩:=its_int rv (i:=argBest (fun i j=>decide ((ns[i]?).getD 0<(ns[j]?).getD 0)) (ns.length - 1)) (v:=v) (by simpa using hP)
    have em:n=Ma.minL ns:=Ma.minL_uniq (List.mem_of_getElem? e) fun m hm=>by
      obtain ⟨j,hj⟩:=List.getElem?_of_mem hm
      have hjl:=(List.getElem?_eq_some_iff.mp hj).1
      have a2:=ab.2 j (by lia)
      simp only [hj,e,Option.getD_some] at a2
      exact a2
    subst em
    exact ⟨.int _,H,(show Inv X pins σ H {s with heap:=h',toks:=tk} from seen I hk),⟨_,rfl⟩,q⟩
end
end L2
namespace L2
open PySem PySem.Spec PyProof.Rows
theorem rel_key {k:Key} {v:Value} (h:keyIs k v=true):RelV (kV k) v:=by
  rcases keyIs_shape h with ⟨i,t,rfl,rfl⟩ | ⟨x,t,rfl,rfl⟩ <;> exact ⟨_,rfl⟩
theorem KV.at {kvs:List (Key×V)} {vs:List (Key×Value)} (r:KV kvs vs):∀ {i:Nat} {p:Key×V},kvs[i]?=some p→∃ u,vs[i]?=some (p.1,u)∧RelV p.2 u:=by
  unfold KV at r
  induction r with
  | nil=>intro i p e;simp at e
  | @cons a b as bs h t ih =>
    intro i p e
    cases i with
    | zero =>
      simp at e
      subst e
      exact ⟨b.2,by rw [h.1];rfl,h.2⟩
    | succ i=>simpa using ih (i:=i) (p:=p) (by simpa using e)
section
variable {X:Cx} {pins:List (Addr×Obj)} {σ:St} {H:Hp} {s:Shared} {a:Addr} {o:Obj} {kvs:List (Key×V)}
theorem Inv.freeze (I:Inv X pins σ H s) (e:H a=some (.dK kvs)) (ho:s.heap.get? a=some o):Inv X pins σ (upd H a (.frz o (.dK kvs))) s :=
  I.write (x:=a) (e:=a) (t':=s.toks) (h':=s.heap) (by rw [e];trivial) (.inl rfl) (fun b q _ z=>z) ⟨o,ho⟩ ⟨ho,I.hok a _ e⟩
theorem Inv.thaw (I:Inv X pins σ H s) (e:H a=some (.frz o (.dK kvs))) (hb:∀ o u,X.H₀ a≠some (.frz o u)):Inv X pins σ (upd H a (.dK kvs)) s:=by
  have ne:∀ b,H b=none→b≠a:=fun b n z=>by rw [z,e] at n;cases n
  refine ⟨I.ok,I.os,I.bare,⟨I.base.keep,I.base.slot,fun b ob q n hx=>?_,I.base.there,fun b xs q=>?_,fun b ob u q=>?_,fun b ps q=>?_⟩,I.loc,I.cell,?_,fun x c q=>?_,fun p hp=>?_,fun b u q=>?_,I.len⟩
  · have:=I.base.free b ob q n hx
    rw [upd_ne (ne b this)];exact this
  · have q':=I.base.tups b xs q
    rw [upd_ne (fun z=>by rw [z,e] at q';cases q')];exact q'
  · have q':=I.base.frzs b ob u q
    rw [upd_ne (fun z=>hb ob u (by rw [← z];exact q))];exact q'
  · obtain ⟨m,q'⟩:=I.base.tbls b ps q
    exact ⟨m,by rw [upd_ne (fun z=>by rw [z,e] at q';cases q')];exact q'⟩
  · rw [upd_ne (ne _ I.free)];exact I.free
  · rw [upd_ne (ne _ (I.freeC x c q))];exact I.freeC x c q
  · obtain ⟨h1,h2,h3⟩:=I.pin p hp
    exact ⟨h1,by rw [upd_ne (ne _ h2)];exact h2,h3⟩
  · by_cases hba:b=a
    · subst hba
      rw [upd_same] at q
      cases q
      exact (I.hok b _ e).2
    · rw [upd_ne hba] at q
      refine (I.hok b u q).stay (fun _ _ _ z=>z) (fun c z=>?_) fun c xs z=>?_
      · rw [upd_ne (fun y=>by rw [y,e] at z;cases z)];exact z
      · rw [upd_ne (fun y=>by rw [y,e] at z;cases z)];exact z
noncomputable def tThaw (H₀:Hp) (u:TS):TS:=fun D σ H=>∃ a o kvs,H a=some (.frz o (.dK kvs))∧(∀ o u,H₀ a≠some (.frz o u))∧u D σ (upd H a (.dK kvs))
theorem pss_thaw {rest:List Stmt} {u:TS} (h:PSs X rest u):PSs X rest (tThaw X.H₀ u):=fun pins s σ H D I q=>by
  obtain ⟨a,o,kvs,e,hb,q⟩:=q
  exact h pins s σ _ D (I.thaw e hb) q
end
noncomputable def Itd (a:Addr) (o:Obj) (kvs:List (Key×V)):It :=
  ⟨fun i H=>H a=some (.frz o (.dK kvs))∧i<kvs.length,fun i H x H'=>H'=H∧∃ k v,kvs[i]?=some (k,v)∧x=kV k,fun i H=>H a=some (.frz o (.dK kvs))∧kvs.length≤i⟩
theorem turn_dict {P:Program} {w:World} {K:PySem.W.Frag} {tg:Expr} {a it:Addr} {o:Obj} {kvs:List (Key×V)} {vs:List (Key×Value)} {ep:Nat} (rel:KV kvs vs)
    (da:∀ h:Heap,h.get? a=some o→h.DictAt (mixKind P w) a vs ep):Turn P w K tg (Itd a o kvs) [it] it (fun i h=>h.IsKeyIter it a i vs.length ep) where
  mem:=by simp
  obj:=fun i h st b hb=>by
    have e:b=it:=by simpa using hb
    subst e
    obtain ⟨o,e,c,d⟩:=st
    exact ⟨o,e,fun v z=>by rw [d] at z;cases z⟩
  keep:=fun i h h' st k=>st.at fun o e=>k it (by simp) o e
  item:=by
    intro X hP hw hK hc i pins s σ H E I hf st hg
    subst hP hw hK
    obtain ⟨hq,hi⟩:=hg
    obtain ⟨f0,f1,f2,f3,f4,f5⟩:=hf it (by simp)
    have hx:kvs[i]?=some kvs[i]:=by simp [hi]
    obtain ⟨u,hu,ru⟩:=rel.at hx
    refine wpAny_pyNext_dict_item st (da _ (I.hok a _ hq).1) hu fun key h' hk st' sb=>?_
    have I1:Inv X pins σ H {s with heap:=h'}:=I.turned (t':=s.toks) (fun b o hb e=>(sb.2 b hb).trans e) f0 f1 f3 f4 f5
    obtain ⟨oi,e,c,d⟩:=id st'
    exact ⟨key,rfl,go_of (s:={s with heap:=h'}) e c d (by decide) ⟨kV (kvs[i]).1,H,I1,rel_key hk,⟨rfl,(kvs[i]).1,(kvs[i]).2,hx,rfl⟩,st',fun b hb=>(hf b hb).1⟩⟩
  done:=by
    intro X hP hw hK hc i pins s σ H E I hf st hg
    subst hP hw hK
    obtain ⟨hq,hi⟩:=hg
    obtain ⟨f0,f1,f2,f3,f4,f5⟩:=hf it (by simp)
    have hl:=rel.length
    exact wpAny_pyNext_dict_end (I.ok.hd hc) st (da _ (I.hok a _ hq).1) (by simp;lia) fun h' eb=>⟨rfl,I.turned (t':=s.toks) (fun b o hb e=>eb b o hb e) f0 f1 f3 f4 f5⟩
  self:=fun _ _ _ _ _ st h=>wpAny_pyIter_keyiter st h
noncomputable def iDict (tl:TE):TI:=fun σ H R=>tl σ H fun x H1=>∃ a kvs,x=.ref a∧H1 a=some (.dK kvs)∧∀ o,R (Itd a o kvs) (upd H1 a (.frz o (.dK kvs)))
theorem pi_dict {X:Cx} {tg l:Expr} {tl:TE} (hl:PE X l tl):PI X tg l (iDict tl):=by
  intro pins s σ H R I h
  refine thn (hl pins s σ H _ I h) fun v s1 ⟨x,H1,I1,r1,q1⟩=>?_
  obtain ⟨a,kvs,e,he,q⟩:=q1
  subst e
  cases r1
  obtain ⟨z,hd,vs,rel,o,es,ep,ho,dd⟩:=dk_of I1.hok he
  refine wpAny_pyIter_dict hd (ep:=ep) ⟨o,es,ho,dd⟩ ?_
  have I2:=I1.freeze he ho
  refine ⟨s1.heap.objs.size,[s1.heap.objs.size],_,_,_,rfl,I2.kept (t':=s1.toks) fun b o e=>Heap.get?_push_of_some _ e,turn_dict (ep:=ep) rel fun h e=>⟨o,es,e,dd⟩,⟨_,Heap.get?_push_size _ rfl,rfl,rfl⟩,fun b hb=>?_,q o⟩
  have e:b=s1.heap.objs.size:=by simpa using hb
  subst e
  exact I2.fpOk (Nat.le_refl _) (I2.hok.fresh (Nat.le_refl _))
theorem for_dict {a:Addr} {o:Obj} {kvs:List (Key×V)} {g:TG} {tb:TS} {D:Ends} {σ:St} {H:Hp} (Pv:Nat→St→Hp→Prop) (h0:Pv 0 σ H) (hl:∀ i σ H,i≤kvs.length→Pv i σ H→H a=some (.frz o (.dK kvs)))
    (hs:∀ i k v σ H,kvs[i]?=some (k,v)→Pv i σ H→g (kV k) σ H fun σ2 H2=>tb {D with nx:=Pv (i+1),ct:=Pv (i+1),bk:=D.nx} σ2 H2) (hd:∀ σ H,Pv kvs.length σ H→D.nx σ H) :
    ∃ W:Nat→Nat→St→Hp→Prop,(∃ m,W 0 m σ H)∧∀ i m σ H,W i m σ H→
      ((Itd a o kvs).stop i H∧D.nx σ H)∨((Itd a o kvs).go i H∧∃ N:St→Hp→Prop,(∀ σ' H',N σ' H'→∃ m',m'<m∧W (i+1) m' σ' H')∧∀ x H',(Itd a o kvs).yld i H x H'→g x σ H' fun σ2 H2=>tb {D with nx:=N,ct:=N,bk:=D.nx} σ2 H2):=by
  refine ⟨fun i m σ H=>m=kvs.length - i∧i≤kvs.length∧Pv i σ H,⟨kvs.length,by simp,Nat.zero_le _,h0⟩,?_⟩
  rintro i m σ H ⟨rfl,hi,p⟩
  have q:=hl i σ H hi p
  by_cases hlt:i<kvs.length
  · refine .inr ⟨⟨q,hlt⟩,Pv (i+1),fun σ' H' p'=>⟨kvs.length - (i+1),by lia,rfl,hlt,p'⟩,fun x H' y=>?_⟩
    obtain ⟨e,k,v,hk,rfl⟩:=y
    subst e
    exact hs i k v σ _ hk p
  · have e:i=kvs.length:=by lia
    subst e
    exact .inl ⟨⟨q,Nat.le_refl _⟩,hd σ H p⟩
end L2
namespace L2
open PySem PySem.Spec PyProof.Rows
end L2
namespace Srt
open PySem PyProof.Rows
structure Ok (a₀:Array Keyed) (p:Array (Nat×Nat×Nat)) (st:SortSt):Prop where
  perm:(arrOf st).Perm a₀
  kind:kindOf st=oneType'
  failed:failedOf st=none
  pend:pendingOf st=p
noncomputable abbrev IntK (x:Keyed):Prop:=∃ n t,x.1=.int n t
section
variable {prog:Program} {w:World} {A:Around} {E:Value→Shared→Prop} {s:Shared} {a₀:Array Keyed} {p:Array (Nat×Nat×Nat)} {st:SortSt}
theorem Ok.size (h:Ok a₀ p st):(arrOf st).size=a₀.size:=h.perm.size_eq
theorem Ok.set (h:Ok a₀ p st) {xs:Array Keyed} (hp:xs.Perm (arrOf st)):Ok a₀ p (setArr st xs):=⟨hp.trans h.perm,h.kind,h.failed,h.pend⟩
theorem Ok.keys (h:Ok a₀ p st) (h0:IntKeys a₀):IntKeys (arrOf st):=fun x hx=>h0 x ((Array.perm_iff_toList_perm.mp h.perm).mem_iff.mp hx)
theorem keys_at {xs:Array Keyed} (h:IntKeys xs) {i:Nat} (hi:i<xs.size):IntK xs[i]:=h _ (by simp)
theorem wpS_lt {x y:Keyed} {Q:Option Bool→SortSt→Prop} (hk:kindOf st=oneType') (hx:IntK x) (hy:IntK y) (h:∀ r,Q (some r) st):wpS (model prog w) A E s (lt' x y) Q st:=by
  obtain ⟨a,t,hx⟩:=hx
  obtain ⟨b,u,hy⟩:=hy
  rw [lt'_eq]
  refine wpS_bind (wpS_get ?_)
  rw [hk,keyLt'_oneType,hx,hy]
  refine wpS_bind (wpS_lift (wpAny_attempt (oneLt_int ⟨rfl,?_⟩)))
  exact wpS_pure (h _)
theorem wpS_elem {arr:Array Keyed} {i:Nat} {Q:Keyed→SortSt→Prop} (hi:i<arr.size) (h:Q arr[i] st):wpS (model prog w) A E s (elem' arr i) Q st:=by
  rw [elem'_eq,getElem?_pos arr i hi]
  exact wpS_pure h
theorem wpS_ltP {i j:Nat} {Q:Option Bool→SortSt→Prop} (ok:Ok a₀ p st) (h0:IntKeys a₀) (hi:i<a₀.size) (hj:j<a₀.size) (h:∀ r,Q (some r) st):wpS (model prog w) A E s (ltAt' i j) Q st:=by
  rw [ltAt'_eq]
  refine wpS_bind (wpS_get ?_)
  have sz:=ok.size
  have hk:=ok.keys h0
  exact wpS_bind (wpS_elem (by lia) (wpS_bind (wpS_elem (by lia) (wpS_lt ok.kind (keys_at hk _) (keys_at hk _) h))))
theorem wpS_rev {i j:Nat} {Q:Unit→SortSt→Prop} (ok:Ok a₀ p st) (h:∀ st',Ok a₀ p st'→Q () st'):wpS (model prog w) A E s (reverseSlice' i j) Q st:=by
  rw [reverseSlice'_eq]
  exact wpS_modify (h _ (ok.set (mirror_perm _ _ _ _)))
theorem wpS_down {i j:Nat} {Q:Unit→SortSt→Prop} (ok:Ok a₀ p st) (h:∀ st',Ok a₀ p st'→Q () st'):wpS (model prog w) A E s (moveDown' i j) Q st:=by
  rw [moveDown'_eq]
  exact wpS_modify (h _ (ok.set (bubble_perm _ _ _)))
theorem wpS_count {lo nrem:Nat} {Q:Option Nat→SortSt→Prop} (h0:IntKeys a₀) (hn:lo+nrem≤a₀.size) (h1:1≤nrem) (ok:Ok a₀ p st)
    (h:∀ m st',Ok a₀ p st'→1≤m→m≤nrem→Q (some m) st'):wpS (model prog w) A E s (countRun' lo nrem) Q st:=by
  rw [countRun'_eq]
  refine wpS_bind (wpS_mono (wpS_forRange (I:=fun x c st'=>c=(none,x)∧Ok a₀ p st') (Q:=fun c st'=>∃ n,c=(none,n)∧1≤n∧n≤nrem∧Ok a₀ p st') ?step ?fin ⟨rfl,ok⟩) ?post)
  case step =>
    rintro x c st' hx1 hx2 ⟨rfl,ok'⟩
    refine wpS_bind (wpS_ltP ok' h0 (by lia) (by lia) fun r=>?_)
    cases r with
    | true=>exact wpS_pure ⟨x,rfl,hx1,by lia,ok'⟩
    | false=>exact wpS_pure ⟨rfl,ok'⟩
  case fin =>
    rintro c st' ⟨rfl,ok'⟩
    exact ⟨max 1 nrem,rfl,by lia,by lia,ok'⟩
  case post =>
    rintro c st' ⟨n,rfl,hn1,hn2,ok'⟩
    dsimp only
    by_cases hnn:n=nrem
    · rw [if_pos (by simpa using hnn)]
      exact wpS_pure (h n _ ok' hn1 hn2)
    · rw [if_neg (by simpa using hnn)]
      by_cases hgt:n>1
      · rw [if_pos hgt]
        refine wpS_bind (wpS_ltP ok' h0 (by lia) (by lia) fun r=>?_)
        cases r with
        | true=>exact wpS_pure (h n _ ok' hn1 hn2)
        | false =>
          dsimp only
          rw [if_neg Bool.false_ne_true]
          refine wpS_bind (wpS_rev ok' fun st4 ok4=>?_)
          refine wpS_bind (wpS_lift (wpAny_rule ⟨rfl,?_⟩))
          refine wpS_bind (wpS_mono (wpS_forRange (I:=fun x c st'=>(∃ q,c=(none,x,q))∧Ok a₀ p st') (Q:=fun c st'=>∃ m q,c=(none,m,q)∧1≤m∧m≤nrem∧Ok a₀ p st') ?_ ?_ ⟨⟨0,rfl⟩,ok4⟩) ?_)
          · rintro x c st' hx1 hx2 ⟨⟨q,rfl⟩,ok'⟩
            dsimp only
            refine wpS_bind (wpS_ltP ok' h0 (by lia) (by lia) fun r=>?_)
            cases r with
            | true =>
              dsimp only
              by_cases hq:q>0
              · rw [if_pos rfl,if_pos hq]
                exact wpS_bind (wpS_rev ok' fun st2 ok2=>wpS_pure ⟨⟨0,rfl⟩,ok2⟩)
              · rw [if_pos rfl,if_neg hq]
                exact wpS_pure ⟨⟨0,rfl⟩,ok'⟩
            | false =>
              dsimp only
              rw [if_neg Bool.false_ne_true]
              refine wpS_bind (wpS_ltP ok' h0 (by lia) (by lia) fun r=>?_)
              cases r with
              | true=>exact wpS_pure ⟨x,q,rfl,by lia,by lia,ok'⟩
              | false=>exact wpS_pure ⟨⟨q+1,rfl⟩,ok'⟩
          · rintro c st' ⟨⟨q,rfl⟩,ok'⟩
            exact ⟨_,q,rfl,by lia,by lia,ok'⟩
          · rintro c st' ⟨m,q,rfl,hm1,hm2,ok2⟩
            dsimp only
            by_cases hq:q>0
            · rw [if_pos hq]
              refine wpS_bind (wpS_rev ok2 fun st3 ok3=>?_)
              refine wpS_bind (wpS_rev ok3 fun stY okY=>?_)
              refine wpS_bind (wpS_mono (wpS_forRange (I:=fun x c st'=>c=(none,x)∧Ok a₀ p st') (Q:=fun c st'=>∃ n,c=(none,n)∧1≤n∧n≤nrem∧Ok a₀ p st') ?_ ?_ ⟨rfl,okY⟩) ?_)
              · rintro x c st' hx1 hx2 ⟨rfl,ok'⟩
                refine wpS_bind (wpS_ltP ok' h0 (by lia) (by lia) fun r=>?_)
                cases r with
                | true=>exact wpS_pure ⟨x,rfl,by lia,by lia,ok'⟩
                | false=>exact wpS_pure ⟨rfl,ok'⟩
              · rintro c st' ⟨rfl,ok'⟩
                exact ⟨_,rfl,by lia,by lia,ok'⟩
              · rintro c st' ⟨n,rfl,hn1,hn2,ok'⟩
                exact wpS_pure (h n _ ok' hn1 hn2)
            · rw [if_neg hq]
              refine wpS_bind (wpS_rev ok2 fun stY okY=>?_)
              refine wpS_bind (wpS_mono (wpS_forRange (I:=fun x c st'=>c=(none,x)∧Ok a₀ p st') (Q:=fun c st'=>∃ n,c=(none,n)∧1≤n∧n≤nrem∧Ok a₀ p st') ?_ ?_ ⟨rfl,okY⟩) ?_)
              · rintro x c st' hx1 hx2 ⟨rfl,ok'⟩
                refine wpS_bind (wpS_ltP ok' h0 (by lia) (by lia) fun r=>?_)
                cases r with
                | true=>exact wpS_pure ⟨x,rfl,by lia,by lia,ok'⟩
                | false=>exact wpS_pure ⟨rfl,ok'⟩
              · rintro c st' ⟨rfl,ok'⟩
                exact ⟨_,rfl,by lia,by lia,ok'⟩
              · rintro c st' ⟨n,rfl,hn1,hn2,ok'⟩
                exact wpS_pure (h n _ ok' hn1 hn2)
      · rw [if_neg hgt]
        refine wpS_bind (wpS_lift (wpAny_rule ⟨rfl,?_⟩))
        refine wpS_bind (wpS_mono (wpS_forRange (I:=fun x c st'=>(∃ q,c=(none,x,q))∧Ok a₀ p st') (Q:=fun c st'=>∃ m q,c=(none,m,q)∧1≤m∧m≤nrem∧Ok a₀ p st') ?_ ?_ ⟨⟨0,rfl⟩,ok'⟩) ?_)
        · rintro x c st' hx1 hx2 ⟨⟨q,rfl⟩,ok'⟩
          dsimp only
          refine wpS_bind (wpS_ltP ok' h0 (by lia) (by lia) fun r=>?_)
          cases r with
          | true =>
            dsimp only
            by_cases hq:q>0
            · rw [if_pos rfl,if_pos hq]
              exact wpS_bind (wpS_rev ok' fun st2 ok2=>wpS_pure ⟨⟨0,rfl⟩,ok2⟩)
            · rw [if_pos rfl,if_neg hq]
              exact wpS_pure ⟨⟨0,rfl⟩,ok'⟩
          | false =>
            dsimp only
            rw [if_neg Bool.false_ne_true]
            refine wpS_bind (wpS_ltP ok' h0 (by lia) (by lia) fun r=>?_)
            cases r with
            | true=>exact wpS_pure ⟨x,q,rfl,by lia,by lia,ok'⟩
            | false=>exact wpS_pure ⟨⟨q+1,rfl⟩,ok'⟩
        · rintro c st' ⟨⟨q,rfl⟩,ok'⟩
          exact ⟨_,q,rfl,by lia,by lia,ok'⟩
        · rintro c st' ⟨m,q,rfl,hm1,hm2,ok2⟩
          dsimp only
          by_cases hq:q>0
          · rw [if_pos hq]
            refine wpS_bind (wpS_rev ok2 fun st3 ok3=>?_)
            refine wpS_bind (wpS_rev ok3 fun stY okY=>?_)
            refine wpS_bind (wpS_mono (wpS_forRange (I:=fun x c st'=>c=(none,x)∧Ok a₀ p st') (Q:=fun c st'=>∃ n,c=(none,n)∧1≤n∧n≤nrem∧Ok a₀ p st') ?_ ?_ ⟨rfl,okY⟩) ?_)
            · rintro x c st' hx1 hx2 ⟨rfl,ok'⟩
              refine wpS_bind (wpS_ltP ok' h0 (by lia) (by lia) fun r=>?_)
              cases r with
              | true=>exact wpS_pure ⟨x,rfl,by lia,by lia,ok'⟩
              | false=>exact wpS_pure ⟨rfl,ok'⟩
            · rintro c st' ⟨rfl,ok'⟩
              exact ⟨_,rfl,by lia,by lia,ok'⟩
            · rintro c st' ⟨n,rfl,hn1,hn2,ok'⟩
              exact wpS_pure (h n _ ok' hn1 hn2)
          · rw [if_neg hq]
            refine wpS_bind (wpS_rev ok2 fun stY okY=>?_)
            refine wpS_bind (wpS_mono (wpS_forRange (I:=fun x c st'=>c=(none,x)∧Ok a₀ p st') (Q:=fun c st'=>∃ n,c=(none,n)∧1≤n∧n≤nrem∧Ok a₀ p st') ?_ ?_ ⟨rfl,okY⟩) ?_)
            · rintro x c st' hx1 hx2 ⟨rfl,ok'⟩
              refine wpS_bind (wpS_ltP ok' h0 (by lia) (by lia) fun r=>?_)
              cases r with
              | true=>exact wpS_pure ⟨x,rfl,by lia,by lia,ok'⟩
              | false=>exact wpS_pure ⟨rfl,ok'⟩
            · rintro c st' ⟨rfl,ok'⟩
              exact ⟨_,rfl,by lia,by lia,ok'⟩
            · rintro c st' ⟨n,rfl,hn1,hn2,ok'⟩
              exact wpS_pure (h n _ ok' hn1 hn2)
theorem wpS_bin {lo n ok:Nat} {Q:Bool→SortSt→Prop} (h0:IntKeys a₀) (hn:lo+n≤a₀.size) (hB:Ok a₀ p st) (h:∀ st',Ok a₀ p st'→Q true st'):wpS (model prog w) A E s (binarySort' lo n ok) Q st:=by
  rw [binarySort'_eq]
  refine wpS_bind (wpS_mono (wpS_forRange (I:=fun k c st'=>c=(none,())∧Ok a₀ p st') (Q:=fun c st'=>c=(none,())∧Ok a₀ p st') ?step (fun _ _ z=>z) ⟨rfl,hB⟩) ?post)
  case post =>
    rintro c st' ⟨rfl,ok'⟩
    exact wpS_pure (h _ ok')
  case step =>
    rintro k c st' hk1 hk2 ⟨rfl,ok'⟩
    dsimp only
    refine wpS_bind (wpS_mono (wpS_forRange (I:=fun _ c st2=>(∃ l r,c=(none,l,r)∧r≤k)∧Ok a₀ p st2) (Q:=fun c st2=>(∃ l r,c=(none,l,r)∧r≤k)∧Ok a₀ p st2) ?_ (fun _ _ z=>z) ⟨⟨0,k,rfl,Nat.le_refl _⟩,ok'⟩) ?_)
    · rintro x c st2 _ _ ⟨⟨l,r,rfl,hr⟩,ok2⟩
      dsimp only
      by_cases hlr:l≥r
      · rw [if_pos hlr]
        exact wpS_pure ⟨⟨l,r,rfl,hr⟩,ok2⟩
      · rw [if_neg hlr]
        refine wpS_bind (wpS_ltP ok2 h0 (by lia) (by lia) fun less=>?_)
        cases less with
        | true=>exact wpS_pure ⟨⟨l,(l+r) / 2,rfl,by lia⟩,ok2⟩
        | false=>exact wpS_pure ⟨⟨(l+r) / 2+1,r,rfl,hr⟩,ok2⟩
    · rintro c st2 ⟨⟨l,r,rfl,hr⟩,ok2⟩
      dsimp only
      exact wpS_bind (wpS_down ok2 fun st3 ok3=>wpS_pure ⟨rfl,ok3⟩)
end
end Srt
namespace Srt
open PySem PyProof.Rows
noncomputable def gallopP:Bool→Keyed→Array Keyed→Nat→Nat→Nat→StateT SortSt Sem (Option Nat):=sortPriv% PySem.Builtin.gallop
section
variable {prog:Program} {w:World} {A:Around} {E:Value→Shared→Prop} {s:Shared} {st:SortSt}
theorem wpS_beyond {left:Bool} {key:Keyed} {arr:Array Keyed} {i:Nat} {Q:Option Bool→SortSt→Prop} (hk:kindOf st=oneType') (h0:IntKeys arr) (hkey:IntK key) (hi:i<arr.size) (h:∀ r,Q (some r) st) :
    wpS (model prog w) A E s (elem' arr i>>=fun x=>if left=true then lt' x key else lt' key x>>=fun r=>pure (Option.map (fun x=>!x) r)) Q st:=by
  refine wpS_bind (wpS_elem hi ?_)
  cases left with
  | true=>exact wpS_lt hk (keys_at h0 hi) hkey h
  | false=>exact wpS_bind (wpS_lt hk hkey (keys_at h0 hi) fun r=>wpS_pure (h _))
theorem wpS_gallop {left:Bool} {key:Keyed} {arr:Array Keyed} {base n hint:Nat} {Q:Option Nat→SortSt→Prop} (hk:kindOf st=oneType') (h0:IntKeys arr) (hkey:IntK key) (hb:base+n≤arr.size) (hh:hint<n)
    (h:∀ k,k≤n→Q (some k) st):wpS (model prog w) A E s (gallopP left key arr base n hint) Q st:=by
  unfold gallopP
  show wpS _ _ _ _ (_>>=_) _ _
  dsimp only
  refine wpS_bind (wpS_beyond hk h0 hkey (by lia) fun right=>?_)
  cases right with
  | true =>
    dsimp only
    rw [if_pos rfl]
    refine wpS_bind (wpS_mono (wpS_forRange (I:=fun _ c st2=>(∃ l r,c=(none,l,r))∧st=st2) (Q:=fun c st2=>(∃ l r,c=(none,l,r))∧st=st2) ?_ (fun _ _ z=>z) ⟨⟨_,_,rfl⟩,rfl⟩) ?_)
    · rintro x c st2 _ _ ⟨⟨l,r,rfl⟩,rfl⟩
      dsimp only
      by_cases hlr:r≥n - hint
      · rw [if_pos hlr]
        exact wpS_pure ⟨⟨l,r,rfl⟩,rfl⟩
      · rw [if_neg hlr]
        refine wpS_bind (wpS_beyond hk h0 hkey (by lia) fun more=>?_)
        cases more with
        | true=>exact wpS_pure ⟨⟨_,_,rfl⟩,rfl⟩
        | false=>exact wpS_pure ⟨⟨_,_,rfl⟩,rfl⟩
    · rintro c st2 ⟨⟨l,r,rfl⟩,rfl⟩
      dsimp only
      refine wpS_bind (wpS_mono (wpS_forRange (I:=fun _ c st2=>(∃ l r,c=(none,l,r)∧r≤n)∧st=st2) (Q:=fun c st2=>(∃ l r,c=(none,l,r)∧r≤n)∧st=st2) ?_ (fun _ _ z=>z) ⟨⟨_,_,rfl,by lia⟩,rfl⟩) ?_)
      · rintro x c st2 _ _ ⟨⟨l,r,rfl,hr⟩,rfl⟩
        dsimp only
        by_cases hlr:l≥r
        · rw [if_pos hlr]
          exact wpS_pure ⟨⟨l,r,rfl,hr⟩,rfl⟩
        · rw [if_neg hlr]
          refine wpS_bind (wpS_beyond hk h0 hkey (by lia) fun more=>?_)
          cases more with
          | true=>exact wpS_pure ⟨⟨l+(r - l) / 2+1,r,rfl,hr⟩,rfl⟩
          | false=>exact wpS_pure ⟨⟨l,l+(r - l) / 2,rfl,by lia⟩,rfl⟩
      · rintro c st2 ⟨⟨l,r,rfl,hr⟩,rfl⟩
        exact wpS_pure (h _ hr)
  | false =>
    dsimp only
    rw [if_neg Bool.false_ne_true]
    refine wpS_bind (wpS_mono (wpS_forRange (I:=fun _ c st2=>(∃ l r,c=(none,l,r))∧st=st2) (Q:=fun c st2=>(∃ l r,c=(none,l,r))∧st=st2) ?_ (fun _ _ z=>z) ⟨⟨_,_,rfl⟩,rfl⟩) ?_)
    · rintro x c st2 _ _ ⟨⟨l,r,rfl⟩,rfl⟩
      dsimp only
      by_cases hlr:r≥hint+1
      · rw [if_pos hlr]
        exact wpS_pure ⟨⟨l,r,rfl⟩,rfl⟩
      · rw [if_neg hlr]
        refine wpS_bind (wpS_beyond hk h0 hkey (by lia) fun more=>?_)
        cases more with
        | true=>exact wpS_pure ⟨⟨_,_,rfl⟩,rfl⟩
        | false=>exact wpS_pure ⟨⟨_,_,rfl⟩,rfl⟩
    · rintro c st2 ⟨⟨l,r,rfl⟩,rfl⟩
      dsimp only
      refine wpS_bind (wpS_mono (wpS_forRange (I:=fun _ c st2=>(∃ l r,c=(none,l,r)∧r≤n)∧st=st2) (Q:=fun c st2=>(∃ l r,c=(none,l,r)∧r≤n)∧st=st2) ?_ (fun _ _ z=>z) ⟨⟨_,_,rfl,by lia⟩,rfl⟩) ?_)
      · rintro x c st2 _ _ ⟨⟨l,r,rfl,hr⟩,rfl⟩
        dsimp only
        by_cases hlr:l≥r
        · rw [if_pos hlr]
          exact wpS_pure ⟨⟨l,r,rfl,hr⟩,rfl⟩
        · rw [if_neg hlr]
          refine wpS_bind (wpS_beyond hk h0 hkey (by lia) fun more=>?_)
          cases more with
          | true=>exact wpS_pure ⟨⟨l+(r - l) / 2+1,r,rfl,hr⟩,rfl⟩
          | false=>exact wpS_pure ⟨⟨l,l+(r - l) / 2,rfl,by lia⟩,rfl⟩
      · rintro c st2 ⟨⟨l,r,rfl,hr⟩,rfl⟩
        exact wpS_pure (h _ hr)
end
end Srt
namespace Srt
open PySem PyProof.Rows
theorem addA {α:Type} {o A B X:List α} (h:o.Perm (A++B)):(o++X).Perm ((A++X)++B):=by
  refine (h.append_right X).trans ?_
  rw [List.append_assoc,List.append_assoc]
  exact List.perm_append_comm.append_left A
theorem addB {α:Type} {o A B X:List α} (h:o.Perm (A++B)):(o++X).Perm (A++(B++X)):=by
  rw [← List.append_assoc]
  exact h.append_right X
noncomputable abbrev Outs (a b:Array Keyed) (o:Array Keyed) (i j:Nat):Prop:=o.toList.Perm (a.toList.take i++b.toList.take j)
section
variable {a b o:Array Keyed} {i j k:Nat}
theorem ext_list (a:Array Keyed) (i k:Nat):(a.extract i (i+k)).toList=(a.toList.drop i).take k:=by
  rw [Array.toList_extract,List.extract_eq_take_drop,Nat.add_sub_cancel_left]
theorem ext_all (a:Array Keyed) (i:Nat):(a.extract i a.size).toList=a.toList.drop i:=by
  rw [Array.toList_extract,List.extract_eq_take_drop]
  exact List.take_of_length_le (by simp)
theorem Outs.pushA (h:Outs a b o i j) (hi:i<a.size):Outs a b (o.push a[i]) (i+1) j:=by
  unfold Outs at h⊢
  rw [Array.toList_push,List.take_add_one,show a.toList[i]?=some a[i] by simp [hi]]
  exact addA h
theorem Outs.pushB (h:Outs a b o i j) (hj:j<b.size):Outs a b (o.push b[j]) i (j+1):=by
  unfold Outs at h⊢
  rw [Array.toList_push,List.take_add_one,show b.toList[j]?=some b[j] by simp [hj]]
  exact addB h
theorem Outs.extA (h:Outs a b o i j) (k:Nat):Outs a b (o++a.extract i (i+k)) (i+k) j:=by
  unfold Outs at h⊢
  rw [Array.toList_append,ext_list,List.take_add]
  exact addA h
theorem Outs.extB (h:Outs a b o i j) (k:Nat):Outs a b (o++b.extract j (j+k)) i (j+k):=by
  unfold Outs at h⊢
  rw [Array.toList_append,ext_list,List.take_add]
  exact addB h
theorem Outs.done (h:Outs a b o i j):(o++a.extract i a.size++b.extract j b.size).toList.Perm (a.toList++b.toList):=by
  unfold Outs at h
  rw [Array.toList_append,Array.toList_append,ext_all,ext_all]
  have:=addB (X:=b.toList.drop j) (addA (X:=a.toList.drop i) h)
  rwa [List.take_append_drop,List.take_append_drop] at this
theorem Outs.last (h:Outs a b o i j):(o++b.extract j b.size++a.extract i a.size).toList.Perm (a.toList++b.toList):=by
  unfold Outs at h
  rw [Array.toList_append,Array.toList_append,ext_all,ext_all]
  have:=addA (X:=a.toList.drop i) (addB (X:=b.toList.drop j) h)
  rwa [List.take_append_drop,List.take_append_drop] at this
end
end Srt
namespace Srt
open PySem PyProof.Rows
noncomputable def setMinP:Nat→StateT SortSt Sem Unit:=sortPriv% PySem.Builtin.setMinGallop
noncomputable def mergeLoP:Array Keyed→Array Keyed→StateT SortSt Sem (Array Keyed):=sortPriv% PySem.Builtin.mergeLo
noncomputable abbrev Still (a₀:Array Keyed) (p:Array (Nat×Nat×Nat)) (x:Array Keyed) (st:SortSt):Prop:=Ok a₀ p st∧arrOf st=x
section
variable {prog:Program} {w:World} {A:Around} {E:Value→Shared→Prop} {s:Shared} {st:SortSt} {a₀ x₀:Array Keyed} {p:Array (Nat×Nat×Nat)}
theorem wpS_setMin {g:Nat} {Q:Unit→SortSt→Prop} (ok:Still a₀ p x₀ st) (h:∀ st',Still a₀ p x₀ st'→Q () st'):wpS (model prog w) A E s (setMinP g) Q st:=by
  unfold setMinP
  exact wpS_modify (h _ ⟨⟨ok.1.perm,ok.1.kind,ok.1.failed,ok.1.pend⟩,ok.2⟩)
noncomputable abbrev LoOn (a b:Array Keyed) (m:Nat) (o:Array Keyed) (i j:Nat):Prop:=Outs a b o i j∧i+1<a.size∧j<b.size∧m≤i+j
theorem nbeq {a b:Nat} (h:¬ a=b):¬ (a==b)=true:=fun z=>h (beq_iff_eq.mp z)
theorem wpS_beq {α:Type} {x y:Nat} {a b:StateT SortSt Sem α} {Q:α→SortSt→Prop} (h1:x=y→wpS (model prog w) A E s a Q st) (h2:¬ x=y→wpS (model prog w) A E s b Q st):wpS (model prog w) A E s (if (x==y)=true then a else b) Q st:=by
  by_cases h:x=y
  · rw [if_pos (beq_iff_eq.mpr h)];exact h1 h
  · rw [if_neg (nbeq h)];exact h2 h
theorem wpS_ite {α:Type} {c:Prop} [Decidable c] {a b:StateT SortSt Sem α} {Q:α→SortSt→Prop} (h1:c→wpS (model prog w) A E s a Q st) (h2:¬ c→wpS (model prog w) A E s b Q st):wpS (model prog w) A E s (if c then a else b) Q st:=by
  by_cases h:c
  · rw [if_pos h];exact h1 h
  · rw [if_neg h];exact h2 h
theorem via1 {T:Nat→Prop} {G:Prop} (key:∀ g',T g') (main:(∀ g',T g')→G):G:=main key
theorem via3 {T:Array Keyed→Nat→Nat→Prop} {G:Prop} (P:Array Keyed→Nat→Prop) (key:∀ o i k,P o i→T o i k) (main:(∀ o i k,P o i→T o i k)→G):G:=main key
theorem wpS_mergeLo {a b:Array Keyed} {Q:Array Keyed→SortSt→Prop} (ok:Still a₀ p x₀ st) (ha:IntKeys a) (hb:IntKeys b) (ha1:1≤a.size) (hb1:1≤b.size)
    (h:∀ o st',Still a₀ p x₀ st'→o.toList.Perm (a.toList++b.toList)→Q o st'):wpS (model prog w) A E s (mergeLoP a b) Q st:=by
  unfold mergeLoP
  show wpS _ _ _ _ (_>>=_) _ _
  refine wpS_bind (wpS_lift (wpAny_rule ⟨rfl,?_⟩))
  refine wpS_bind (wpS_elem (by lia) ?_)
  have o1:Outs a b #[b[0]] 0 1:=by
    have:Outs a b #[] 0 0:=by simp [Outs]
    exact this.pushB (by lia)
  refine wpS_beq (fun h1=>wpS_pure (h _ _ ok o1.done)) (fun h1=>?_)
  refine wpS_beq (fun h2=>wpS_pure (h _ _ ok o1.last)) (fun h2=>?_)
  refine wpS_bind (wpS_get ?_)
  refine wpS_bind (wpS_mono (wpS_forRange (I:=fun m c st'=>∃ o i j g,c=(none,o,i,j,g)∧LoOn a b m o i j∧Still a₀ p x₀ st')
    (Q:=fun c st'=>∃ r rest,c=(some r,rest)∧r.toList.Perm (a.toList++b.toList)∧Still a₀ p x₀ st') ?step ?fin ⟨_,_,_,_,rfl,⟨o1,by lia,by lia,by lia⟩,ok⟩) ?post)
  case fin =>
    rintro c st' ⟨o,i,j,g,rfl,⟨_,h3,h4,h5⟩,_⟩
    lia
  case post =>
    rintro c st' ⟨r,rest,rfl,hp,ok'⟩
    exact wpS_pure (h _ _ ok' hp)
  case step =>
    rintro m c st' _ hm ⟨o,i,j,g,rfl,on,ok'⟩
    refine wpS_bind (wpS_mono (wpS_forRange (I:=fun y c st2=>∃ o i j ac bc,c=(none,o,i,j,ac,bc)∧LoOn a b (m+y) o i j∧Still a₀ p x₀ st2)
      (Q:=fun c st2=>(∃ o i j ac bc,c=(none,o,i,j,ac,bc)∧LoOn a b (m+1) o i j∧Still a₀ p x₀ st2)∨∃ r rest,c=(some r,rest)∧r.toList.Perm (a.toList++b.toList)∧Still a₀ p x₀ st2) ?step1 ?fin1 ⟨_,_,_,_,_,rfl,on,ok'⟩) ?post1)
    case fin1 =>
      rintro c st2 ⟨o,i,j,ac,bc,rfl,⟨q1,q2,q3,q4⟩,ok2⟩
      exact .inl ⟨_,_,_,_,_,rfl,⟨q1,q2,q3,by lia⟩,ok2⟩
    case step1 =>
      rintro y c st2 _ hy ⟨o,i,j,ac,bc,rfl,⟨q1,q2,q3,q4⟩,ok2⟩
      dsimp only
      refine wpS_bind (wpS_elem (by lia) (wpS_bind (wpS_elem (by lia) (wpS_bind (wpS_lt ok2.1.kind (keys_at hb _) (keys_at ha _) fun r=>?_)))))
      cases r with
      | true =>
        dsimp only
        rw [if_pos rfl]
        refine wpS_bind (wpS_elem (by lia) ?_)
        refine wpS_beq (fun hz=>wpS_pure (.inr ⟨_,_,rfl,(q1.pushB (by lia)).done,ok2⟩)) (fun hz=>?_)
        split
        · exact wpS_pure (.inl ⟨_,_,_,_,_,rfl,⟨q1.pushB (by lia),by lia,by lia,by lia⟩,ok2⟩)
        · exact wpS_pure ⟨_,_,_,_,_,rfl,⟨q1.pushB (by lia),by lia,by lia,by lia⟩,ok2⟩
      | false =>
        dsimp only
        rw [if_neg Bool.false_ne_true]
        refine wpS_bind (wpS_elem (by lia) ?_)
        refine wpS_beq (fun hz=>wpS_pure (.inr ⟨_,_,rfl,(q1.pushA (by lia)).last,ok2⟩)) (fun hz=>?_)
        split
        · exact wpS_pure (.inl ⟨_,_,_,_,_,rfl,⟨q1.pushA (by lia),by lia,by lia,by lia⟩,ok2⟩)
        · exact wpS_pure ⟨_,_,_,_,_,rfl,⟨q1.pushA (by lia),by lia,by lia,by lia⟩,ok2⟩
    case post1 =>
      rintro c st2 (⟨o,i,j,ac,bc,rfl,on2,ok2⟩ | ⟨r,rest,rfl,hp,ok2⟩)
      · dsimp only
        refine wpS_bind (wpS_lift (wpAny_rule ⟨rfl,?_⟩))
        refine wpS_bind (wpS_mono (wpS_forRange (I:=fun _ c st3=>∃ o i j g ac bc,c=(none,o,i,j,g,ac,bc)∧LoOn a b (m+1) o i j∧Still a₀ p x₀ st3)
          (Q:=fun c st3=>(∃ o i j g ac bc,c=(none,o,i,j,g,ac,bc)∧LoOn a b (m+1) o i j∧Still a₀ p x₀ st3)∨∃ r rest,c=(some r,rest)∧r.toList.Perm (a.toList++b.toList)∧Still a₀ p x₀ st3) ?step2 (fun _ _ z=>.inl z) ⟨_,_,_,_,_,_,rfl,on2,ok2⟩) ?post2)
        case post2 =>
          rintro c st3 (⟨o,i,j,g,ac,bc,rfl,on3,ok3⟩ | ⟨r,⟨o,i,j,g,ac,bc⟩,rfl,hp,ok3⟩)
          · dsimp only
            exact wpS_bind (wpS_setMin ok3 fun st4 ok4=>wpS_pure ⟨_,_,_,_,rfl,on3,ok4⟩)
          · exact wpS_pure ⟨_,_,rfl,hp,ok3⟩
        case step2 =>
          rintro y c st3 _ _ ⟨o,i,j,g,ac,bc,rfl,⟨q1,q2,q3,q4⟩,ok3⟩
          dsimp only
          refine via1 (T:=?T1) ?key1 ?main1
          case main1 =>
            intro key
            refine wpS_ite (fun hg=>?_) (fun hg=>?_)
            · generalize g - 1=g'
              exact key g'
            · with_reducible exact key g
          case key1 =>
            intro g'
            refine wpS_bind (wpS_setMin ok3 fun st4 ok4=>?_)
            refine wpS_bind (wpS_elem (by lia) ?_)
            refine wpS_bind (wpS_gallop ok4.1.kind ha (keys_at hb _) (by lia) (by lia) fun k hk=>?_)
            refine wpS_ite (fun hk0=>?_) (fun hk0=>?_)
            · skip
              refine wpS_beq (fun hz=>wpS_pure (.inr ⟨_,_,rfl,(q1.extA k).last,ok4⟩)) (fun hz=>?_)
              refine wpS_beq (fun hz2=>wpS_pure (.inr ⟨_,_,rfl,(q1.extA k).done,ok4⟩)) (fun hz2=>?_)
              refine wpS_bind (wpS_elem (by lia) ?_)
              refine wpS_beq (fun hy=>wpS_pure (.inr ⟨_,_,rfl,(Outs.pushB (q1.extA k) (by lia)).done,ok4⟩)) (fun hy=>?_)
              refine wpS_bind (wpS_elem (by lia) ?_)
              refine wpS_bind (wpS_gallop ok4.1.kind hb (keys_at ha _) (by lia) (by lia) fun k1 hk1=>?_)
              refine wpS_ite (fun hk2=>?_) (fun hk2=>?_)
              · skip
                refine wpS_beq (fun hy2=>wpS_pure (.inr ⟨_,_,rfl,((Outs.pushB (q1.extA k) (by lia)).extB k1).done,ok4⟩)) (fun hy2=>?_)
                refine wpS_bind (wpS_elem (by lia) ?_)
                split
                · exact wpS_pure (.inr ⟨_,_,rfl,(Outs.pushA ((Outs.pushB (q1.extA k) (by lia)).extB k1) (by lia)).last,ok4⟩)
                · split
                  · exact wpS_pure (.inl ⟨_,_,_,_,_,_,rfl,⟨Outs.pushA ((Outs.pushB (q1.extA k) (by lia)).extB k1) (by lia),by lia,by lia,by lia⟩,ok4⟩)
                  · exact wpS_pure ⟨_,_,_,_,_,_,rfl,⟨Outs.pushA ((Outs.pushB (q1.extA k) (by lia)).extB k1) (by lia),by lia,by lia,by lia⟩,ok4⟩
              · skip
                refine wpS_bind (wpS_elem (by lia) ?_)
                split
                · exact wpS_pure (.inr ⟨_,_,rfl,(Outs.pushA (Outs.pushB (q1.extA k) (by lia)) (by lia)).last,ok4⟩)
                · split
                  · exact wpS_pure (.inl ⟨_,_,_,_,_,_,rfl,⟨Outs.pushA (Outs.pushB (q1.extA k) (by lia)) (by lia),by lia,by lia,by lia⟩,ok4⟩)
                  · exact wpS_pure ⟨_,_,_,_,_,_,rfl,⟨Outs.pushA (Outs.pushB (q1.extA k) (by lia)) (by lia),by lia,by lia,by lia⟩,ok4⟩
            · skip
              refine wpS_bind (wpS_elem (by lia) ?_)
              refine wpS_beq (fun hy=>wpS_pure (.inr ⟨_,_,rfl,(Outs.pushB q1 (by lia)).done,ok4⟩)) (fun hy=>?_)
              refine wpS_bind (wpS_elem (by lia) ?_)
              refine wpS_bind (wpS_gallop ok4.1.kind hb (keys_at ha _) (by lia) (by lia) fun k1 hk1=>?_)
              refine wpS_ite (fun hk2=>?_) (fun hk2=>?_)
              · skip
                refine wpS_beq (fun hy2=>wpS_pure (.inr ⟨_,_,rfl,((Outs.pushB q1 (by lia)).extB k1).done,ok4⟩)) (fun hy2=>?_)
                refine wpS_bind (wpS_elem (by lia) ?_)
                split
                · exact wpS_pure (.inr ⟨_,_,rfl,(Outs.pushA ((Outs.pushB q1 (by lia)).extB k1) (by lia)).last,ok4⟩)
                · split
                  · exact wpS_pure (.inl ⟨_,_,_,_,_,_,rfl,⟨Outs.pushA ((Outs.pushB q1 (by lia)).extB k1) (by lia),by lia,by lia,by lia⟩,ok4⟩)
                  · exact wpS_pure ⟨_,_,_,_,_,_,rfl,⟨Outs.pushA ((Outs.pushB q1 (by lia)).extB k1) (by lia),by lia,by lia,by lia⟩,ok4⟩
              · skip
                refine wpS_bind (wpS_elem (by lia) ?_)
                split
                · exact wpS_pure (.inr ⟨_,_,rfl,(Outs.pushA (Outs.pushB q1 (by lia)) (by lia)).last,ok4⟩)
                · split
                  · exact wpS_pure (.inl ⟨_,_,_,_,_,_,rfl,⟨Outs.pushA (Outs.pushB q1 (by lia)) (by lia),by lia,by lia,by lia⟩,ok4⟩)
                  · exact wpS_pure ⟨_,_,_,_,_,_,rfl,⟨Outs.pushA (Outs.pushB q1 (by lia)) (by lia),by lia,by lia,by lia⟩,ok4⟩
      · obtain ⟨o,i,j,ac,bc⟩:=rest
        exact wpS_pure ⟨_,_,rfl,hp,ok2⟩
end
end Srt
namespace Srt
open PySem PyProof.Rows
noncomputable def mergeHiP:Array Keyed→Array Keyed→StateT SortSt Sem (Array Keyed):=sortPriv% PySem.Builtin.mergeHi
noncomputable abbrev Behind (a b:Array Keyed) (o:Array Keyed) (i j:Nat):Prop:=o.toList.Perm (a.toList.drop i++b.toList.drop j)
section
variable {a b o:Array Keyed} {i j k:Nat}
theorem putA {α:Type} {o A B X:List α} (h:o.Perm (A++B)):(o++X).Perm ((X++A)++B):=by
  refine List.perm_append_comm.trans ?_
  rw [List.append_assoc]
  exact h.append_left X
theorem putB {α:Type} {o A B X:List α} (h:o.Perm (A++B)):(o++X).Perm (A++(X++B)):=by
  refine (h.append_right X).trans ?_
  rw [List.append_assoc]
  exact List.perm_append_comm.append_left A
theorem ext_mid (a:Array Keyed) {k i:Nat} (h:k≤i):a.toList.drop k=(a.extract k i).toList++a.toList.drop i:=by
  obtain ⟨d,rfl⟩:∃ d,i=k+d:=⟨i - k,by lia⟩
  rw [ext_list,← List.drop_drop,List.take_append_drop]
theorem ext_low (a:Array Keyed) (i:Nat):(a.extract 0 i).toList=a.toList.take i:=by
  have:=ext_list a 0 i
  rwa [Nat.zero_add] at this
theorem drop_less (a:Array Keyed) (h0:1≤i) (hi:i≤a.size):a.toList.drop (i - 1)=a[i - 1]::a.toList.drop i:=by
  rw [List.drop_eq_getElem_cons (by simp;omega),show i - 1+1=i by lia]
  simp
theorem Behind.pushA (h:Behind a b o i j) (h0:1≤i) (hi:i≤a.size):Behind a b (o.push a[i - 1]) (i - 1) j:=by
  unfold Behind at h⊢
  rw [Array.toList_push,drop_less a h0 hi]
  exact putA (X:=[a[i - 1]]) h
theorem Behind.pushB (h:Behind a b o i j) (h0:1≤j) (hj:j≤b.size):Behind a b (o.push b[j - 1]) i (j - 1):=by
  unfold Behind at h⊢
  rw [Array.toList_push,drop_less b h0 hj]
  exact putB (X:=[b[j - 1]]) h
theorem Behind.extA (h:Behind a b o i j) (hk:k≤i):Behind a b (o++(a.extract k i).reverse) k j:=by
  unfold Behind at h⊢
  rw [Array.toList_append,Array.toList_reverse,ext_mid a hk]
  exact ((List.reverse_perm _).append_left _).trans (putA h)
theorem Behind.extB (h:Behind a b o i j) (hk:k≤j):Behind a b (o++(b.extract k j).reverse) i k:=by
  unfold Behind at h⊢
  rw [Array.toList_append,Array.toList_reverse,ext_mid b hk]
  exact ((List.reverse_perm _).append_left _).trans (putB h)
theorem all_of {α:Type} (A B:List α) {o:List α} (h:o.Perm (A.drop i++B.drop j)):(A.take i++B.take j++o).Perm (A++B):=by
  refine (h.append_left _).trans ?_
  have:(A.take i++B.take j++(A.drop i++B.drop j)).Perm ((A.take i++A.drop i)++(B.take j++B.drop j)):=by
    rw [List.append_assoc,List.append_assoc]
    refine List.Perm.append_left _ ?_
    rw [← List.append_assoc,← List.append_assoc]
    exact List.perm_append_comm.append_right _
  rwa [List.take_append_drop,List.take_append_drop] at this
theorem Behind.done (h:Behind a b o i j):(a.extract 0 i++b.extract 0 j++o.reverse).toList.Perm (a.toList++b.toList):=by
  unfold Behind at h
  rw [Array.toList_append,Array.toList_append,ext_low,ext_low,Array.toList_reverse]
  exact all_of _ _ ((List.reverse_perm _).trans h)
theorem Behind.first (h:Behind a b o i j):(b.extract 0 j++a.extract 0 i++o.reverse).toList.Perm (a.toList++b.toList):=by
  unfold Behind at h
  rw [Array.toList_append,Array.toList_append,ext_low,ext_low,Array.toList_reverse]
  exact (List.perm_append_comm.append_right _).trans (all_of _ _ ((List.reverse_perm _).trans h))
end
section
variable {prog:Program} {w:World} {A:Around} {E:Value→Shared→Prop} {s:Shared} {st:SortSt} {a₀ x₀:Array Keyed} {p:Array (Nat×Nat×Nat)}
noncomputable abbrev HiOn (a b:Array Keyed) (m:Nat) (o:Array Keyed) (i j:Nat):Prop:=Behind a b o i j∧(1≤i∧i≤a.size)∧(2≤j∧j≤b.size)∧m+i+j≤a.size+b.size
theorem wpS_mergeHi {a b:Array Keyed} {Q:Array Keyed→SortSt→Prop} (ok:Still a₀ p x₀ st) (ha:IntKeys a) (hb:IntKeys b) (ha1:1≤a.size) (hb1:1≤b.size)
    (h:∀ o st',Still a₀ p x₀ st'→o.toList.Perm (a.toList++b.toList)→Q o st'):wpS (model prog w) A E s (mergeHiP a b) Q st:=by
  unfold mergeHiP
  show wpS _ _ _ _ (_>>=_) _ _
  refine wpS_bind (wpS_lift (wpAny_rule ⟨rfl,?_⟩))
  refine wpS_bind (wpS_elem (by lia) ?_)
  have o1:Behind a b #[a[a.size - 1]] (a.size - 1) b.size:=by
    have:Behind a b #[] a.size b.size:=by simp [Behind]
    exact this.pushA (by lia) (by lia)
  refine wpS_beq (fun h1=>wpS_pure (h _ _ ok o1.done)) (fun h1=>?_)
  refine wpS_beq (fun h2=>wpS_pure (h _ _ ok o1.first)) (fun h2=>?_)
  refine wpS_bind (wpS_get ?_)
  refine wpS_bind (wpS_mono (wpS_forRange (I:=fun m c st'=>∃ i j o g,c=(none,i,j,o,g)∧HiOn a b m o i j∧Still a₀ p x₀ st')
    (Q:=fun c st'=>∃ r rest,c=(some r,rest)∧r.toList.Perm (a.toList++b.toList)∧Still a₀ p x₀ st') ?step ?fin ⟨_,_,_,_,rfl,⟨o1,by lia,by lia,by lia⟩,ok⟩) ?post)
  case fin =>
    rintro c st' ⟨i,j,o,g,rfl,⟨_,h3,h4,h5⟩,_⟩
    omega
  case post =>
    rintro c st' ⟨r,rest,rfl,hp,ok'⟩
    exact wpS_pure (h _ _ ok' hp)
  case step =>
    rintro m c st' _ hm ⟨i,j,o,g,rfl,on,ok'⟩
    refine wpS_bind (wpS_mono (wpS_forRange (I:=fun y c st2=>∃ i j o ac bc,c=(none,i,j,o,ac,bc)∧HiOn a b (m+y) o i j∧Still a₀ p x₀ st2)
      (Q:=fun c st2=>(∃ i j o ac bc,c=(none,i,j,o,ac,bc)∧HiOn a b (m+1) o i j∧Still a₀ p x₀ st2)∨∃ r rest,c=(some r,rest)∧r.toList.Perm (a.toList++b.toList)∧Still a₀ p x₀ st2) ?step1 ?fin1 ⟨_,_,_,_,_,rfl,on,ok'⟩) ?post1)
    case fin1 =>
      rintro c st2 ⟨i,j,o,ac,bc,rfl,⟨q1,q2,q3,q4⟩,ok2⟩
      exact .inl ⟨_,_,_,_,_,rfl,⟨q1,q2,q3,by lia⟩,ok2⟩
    case step1 =>
      rintro y c st2 _ hy ⟨i,j,o,ac,bc,rfl,⟨q1,q2,q3,q4⟩,ok2⟩
      dsimp only
      refine wpS_bind (wpS_elem (by lia) (wpS_bind (wpS_elem (by lia) (wpS_bind (wpS_lt ok2.1.kind (keys_at hb _) (keys_at ha _) fun r=>?_)))))
      cases r with
      | true =>
        dsimp only
        rw [if_pos rfl]
        refine wpS_bind (wpS_elem (by lia) ?_)
        refine wpS_beq (fun hz=>wpS_pure (.inr ⟨_,_,rfl,(q1.pushA (by lia) (by lia)).done,ok2⟩)) (fun hz=>?_)
        split
        · exact wpS_pure (.inl ⟨_,_,_,_,_,rfl,⟨q1.pushA (by lia) (by lia),by lia,by lia,by lia⟩,ok2⟩)
        · exact wpS_pure ⟨_,_,_,_,_,rfl,⟨q1.pushA (by lia) (by lia),by lia,by lia,by lia⟩,ok2⟩
      | false =>
        dsimp only
        rw [if_neg Bool.false_ne_true]
        refine wpS_bind (wpS_elem (by lia) ?_)
        refine wpS_beq (fun hz=>wpS_pure (.inr ⟨_,_,rfl,(q1.pushB (by lia) (by lia)).first,ok2⟩)) (fun hz=>?_)
        split
        · exact wpS_pure (.inl ⟨_,_,_,_,_,rfl,⟨q1.pushB (by lia) (by lia),by lia,by lia,by lia⟩,ok2⟩)
        · exact wpS_pure ⟨_,_,_,_,_,rfl,⟨q1.pushB (by lia) (by lia),by lia,by lia,by lia⟩,ok2⟩
    case post1 =>
      rintro c st2 (⟨i,j,o,ac,bc,rfl,on2,ok2⟩ | ⟨r,rest,rfl,hp,ok2⟩)
      · dsimp only
        refine wpS_bind (wpS_lift (wpAny_rule ⟨rfl,?_⟩))
        refine wpS_bind (wpS_mono (wpS_forRange (I:=fun _ c st3=>∃ i j o g ac bc,c=(none,i,j,o,g,ac,bc)∧HiOn a b (m+1) o i j∧Still a₀ p x₀ st3)
          (Q:=fun c st3=>(∃ i j o g ac bc,c=(none,i,j,o,g,ac,bc)∧HiOn a b (m+1) o i j∧Still a₀ p x₀ st3)∨∃ r rest,c=(some r,rest)∧r.toList.Perm (a.toList++b.toList)∧Still a₀ p x₀ st3) ?step2 (fun _ _ z=>.inl z) ⟨_,_,_,_,_,_,rfl,on2,ok2⟩) ?post2)
        case post2 =>
          rintro c st3 (⟨i,j,o,g,ac,bc,rfl,on3,ok3⟩ | ⟨r,⟨i,j,o,g,ac,bc⟩,rfl,hp,ok3⟩)
          · dsimp only
            exact wpS_bind (wpS_setMin ok3 fun st4 ok4=>wpS_pure ⟨_,_,_,_,rfl,on3,ok4⟩)
          · exact wpS_pure ⟨_,_,rfl,hp,ok3⟩
        case step2 =>
          rintro y c st3 _ _ ⟨i,j,o,g,ac,bc,rfl,⟨q1,q2,q3,q4⟩,ok3⟩
          dsimp only
          refine via1 (T:=?T1) ?key1 ?main1
          case main1 =>
            intro key
            refine wpS_ite (fun hg=>?_) (fun hg=>?_)
            · generalize g - 1=g'
              exact key g'
            · with_reducible exact key g
          case key1 =>
            intro g'
            refine wpS_bind (wpS_setMin ok3 fun st4 ok4=>?_)
            refine wpS_bind (wpS_elem (by lia) ?_)
            refine wpS_bind (wpS_gallop ok4.1.kind ha (keys_at hb _) (by lia) (by lia) fun k hk=>?_)
            refine via3 (T:=?T2) (fun o2 i2=>Behind a b o2 i2 j∧1≤i2∧i2≤a.size∧m+1+i2+j≤a.size+b.size) ?key2 ?main2
            case main2 =>
              intro key
              refine wpS_ite (fun hk0=>?_) (fun hk0=>?_)
              · skip
                have x1:Behind a b (o++(a.extract k i).reverse) k j:=Behind.extA (k:=k) q1 (by lia)
                refine wpS_beq (fun hz=>wpS_pure (.inr ⟨_,_,rfl,x1.done,ok4⟩)) (fun hz=>?_)
                have pk:1≤k∧k≤a.size∧m+1+k+j≤a.size+b.size:=by lia
                clear hz hk0
                generalize o++(a.extract k i).reverse=o2 at x1⊢
                generalize i - k=ka
                generalize k=i2 at x1 pk⊢
                exact key o2 i2 ka ⟨x1,pk⟩
              · with_reducible exact key o i (i - k) ⟨q1,q2.1,q2.2,q4⟩
            case key2 =>
              rintro o2 i2 ka ⟨r1,r2,hi2,hmm⟩
              clear q1 q2 q4 hk
              refine wpS_bind (wpS_elem (by lia) ?_)
              have y1:=r1.pushB (by lia) q3.2
              refine wpS_beq (fun hy=>wpS_pure (.inr ⟨_,_,rfl,y1.first,ok4⟩)) (fun hy=>?_)
              have hj2:2≤j - 1∧j - 1≤b.size∧m+1+i2+(j - 1)≤a.size+b.size:=by lia
              generalize o2.push b[j - 1]=o3 at y1⊢
              clear r1 hy hmm q3
              generalize j - 1=j2 at y1 hj2⊢
              refine wpS_bind (wpS_elem (by lia) ?_)
              refine wpS_bind (wpS_gallop ok4.1.kind hb (keys_at ha _) (by lia) (by lia) fun k1 hk1=>?_)
              refine via3 (T:=?T3) (fun o5 j5=>Behind a b o5 i2 j5∧2≤j5∧j5≤b.size∧m+1+i2+j5≤a.size+b.size) ?key3 ?main3
              case main3 =>
                intro key
                refine wpS_ite (fun hk2=>?_) (fun hk2=>?_)
                · skip
                  have z1:=Behind.extB (k:=k1) y1 (by lia)
                  refine wpS_beq (fun hy2=>wpS_pure (.inr ⟨_,_,rfl,z1.first,ok4⟩)) (fun hy2=>?_)
                  refine wpS_beq (fun hy3=>wpS_pure (.inr ⟨_,_,rfl,z1.done,ok4⟩)) (fun hy3=>?_)
                  have pt:2≤k1∧k1≤b.size∧m+1+i2+k1≤a.size+b.size:=by lia
                  clear hy2 hy3 hk2
                  generalize o3++(b.extract k1 j2).reverse=o5 at z1⊢
                  generalize j2 - k1=kb
                  generalize k1=j5 at z1 pt⊢
                  exact key o5 j5 kb ⟨z1,pt⟩
                · with_reducible exact key o3 j2 (j2 - k1) ⟨y1,hj2⟩
              case key3 =>
                rintro o5 j5 kb ⟨t1,t2,t3,t4⟩
                refine wpS_bind (wpS_elem (by lia) ?_)
                have u1:=t1.pushA r2 hi2
                refine wpS_beq (fun hz=>wpS_pure (.inr ⟨_,_,rfl,u1.done,ok4⟩)) (fun hz=>?_)
                have on5:HiOn a b (m+1) (o5.push a[i2 - 1]) (i2 - 1) j5:=⟨u1,⟨by lia,by lia⟩,⟨t2,t3⟩,by lia⟩
                split
                · exact wpS_pure (.inl ⟨_,_,_,_,_,_,rfl,on5,ok4⟩)
                · exact wpS_pure ⟨_,_,_,_,_,_,rfl,on5,ok4⟩
      · obtain ⟨i,j,o,ac,bc⟩:=rest
        exact wpS_pure ⟨_,_,rfl,hp,ok2⟩
end
end Srt
namespace Srt
open PySem PyProof.Rows
noncomputable def Cov:List (Nat×Nat×Nat)→Nat→Nat→Prop
  | [],s,e=>s=e
  | q::r,s,e=>q.1=s∧1≤q.2.1∧Cov r (s+q.2.1) e
theorem Cov.le:∀ {l:List (Nat×Nat×Nat)} {s e:Nat},Cov l s e→s≤e
  | [],_,_,h=>by unfold Cov at h;lia
  | q::r,s,e,h=>by
    obtain ⟨h1,h2,h3⟩:=h
    have:=h3.le
    lia
theorem Cov.snoc:∀ {l:List (Nat×Nat×Nat)} {s e n g:Nat},Cov l s e→1≤n→Cov (l++[(e,n,g)]) s (e+n)
  | [],_,_,_,_,h,hn=>by unfold Cov at h;subst h;exact ⟨rfl,hn,rfl⟩
  | q::r,s,e,n,g,h,hn=>⟨h.1,h.2.1,h.2.2.snoc hn⟩
theorem Cov.two:∀ {l:List (Nat×Nat×Nat)} {s e i:Nat},Cov l s e→i+1<l.length→∃ a n g m g',l[i]?=some (a,n,g)∧l[i+1]?=some (a+n,m,g')∧1≤n∧1≤m∧a+n+m≤e∧
    Cov ((l.set i (a,n+m,g)).eraseIdx (i+1)) s e
  | [],_,_,_,_,h=>by simp at h
  | [q],_,_,i,_,h=>by simp at h
  | q::q'::r,s,e,0,h,_=>by
    obtain ⟨h1,h2,h3,h4,h5⟩:=h
    have:=h5.le
    obtain ⟨a,n,g⟩:=q
    obtain ⟨b,m,g'⟩:=q'
    simp only at h1 h2 h3 h4 h5 this
    subst h1 h3
    refine ⟨_,_,_,_,_,rfl,rfl,h2,h4,by lia,rfl,by simp only;lia,?_⟩
    simp only
    rw [← Nat.add_assoc]
    exact h5
  | q::q'::r,s,e,i+1,h,hi=>by
    obtain ⟨a,n,g,m,g',e1,e2,h1,h2,h3,h4⟩:=h.2.2.two (i:=i) (by simp at hi⊢;lia)
    exact ⟨a,n,g,m,g',by simpa using e1,by simpa using e2,h1,h2,h3,by simpa using ⟨h.1,h.2.1,h4⟩⟩
theorem Cov.mod:∀ {l:List (Nat×Nat×Nat)} {s e i g:Nat},Cov l s e→Cov (l.modify i fun q=>(q.1,q.2.1,g)) s e
  | [],_,_,i,_,h=>by cases i <;> simpa using h
  | q::r,s,e,0,g,h=>by simpa [Cov] using h
  | q::r,s,e,i+1,g,h=>by
    have:=h.2.2.mod (i:=i) (g:=g)
    simpa using ⟨h.1,h.2.1,this⟩
theorem wrote:∀ (l:List Keyed) (x:Array Keyed) (d k:Nat),d+k+l.length≤x.size→
    ((l.zipIdx k).foldl (fun (y:Array Keyed) (q:Keyed×Nat)=>y.setIfInBounds (d+q.2) q.1) x).toList=x.toList.take (d+k)++l++x.toList.drop (d+k+l.length)
  | [],x,d,k,h=>by simp
  | q::l,x,d,k,h=>by
    simp only [List.length_cons] at h
    rw [List.zipIdx_cons,List.foldl_cons]
    have z:x.size=(x.setIfInBounds (d+k) q).size:=by simp
    have ih:=wrote l (x.setIfInBounds (d+k) q) d (k+1) (by rw [← z];lia)
    rw [ih,Array.toList_setIfInBounds,List.drop_set_of_lt (by lia),show d+(k+1)=d+k+1 by lia,List.take_add_one,List.getElem?_set_self (by simp;lia)]
    rw [List.take_set,List.set_eq_of_length_le (by rw [List.length_take];lia)]
    simp only [List.length_cons,Option.toList_some,List.append_assoc,List.cons_append,List.nil_append]
    congr 4
    lia
theorem wrote_perm {x o:Array Keyed} {i k:Nat} (hk:i+k≤x.size) (h:o.toList.Perm ((x.toList.drop i).take k)) :
    (o.toList.zipIdx.foldl (fun (y:Array Keyed) (q:Keyed×Nat)=>y.setIfInBounds (i+q.2) q.1) x).Perm x:=by
  have hl:o.toList.length=k:=by rw [h.length_eq];simp;lia
  rw [Array.perm_iff_toList_perm,wrote _ _ _ _ (by lia)]
  have e:x.toList=x.toList.take i++((x.toList.drop i).take k++x.toList.drop (i+k)):=by rw [← List.drop_drop,List.take_append_drop,List.take_append_drop]
  conv=>rhs;rw [e]
  rw [Nat.add_zero,hl,List.append_assoc]
  exact (h.append_right _).append_left _
section
variable {prog:Program} {w:World} {A:Around} {E:Value→Shared→Prop} {s:Shared} {st:SortSt} {a₀ x₀:Array Keyed} {p:Array (Nat×Nat×Nat)}
theorem wpS_set {σ:Type} {M:Model} {x:σ} {Q:PUnit→σ→Prop} {st:σ} (h:Q ⟨⟩ x):wpS M A E s (set x:StateT σ Sem PUnit) Q st:=by
  unfold wpS
  rw [StateT.run_set]
  exact wpAny_pure ⟨rfl,h⟩
theorem keys_ext {x:Array Keyed} (h:IntKeys x) (i k:Nat):IntKeys (x.extract i (i+k)):=fun q hq=>by
  rw [ext_list] at hq
  exact h q (List.mem_of_mem_drop (List.mem_of_mem_take hq))
theorem wpS_mergeAt {i e:Nat} {Q:Bool→SortSt→Prop} (h0:IntKeys a₀) (ok:Ok a₀ p st) (hc:Cov p.toList 0 e) (he:e≤a₀.size) (hi:i+1<p.size)
    (h:∀ p' st',Ok a₀ p' st'→Cov p'.toList 0 e→p'.size+1=p.size→Q true st'):wpS (model prog w) A E s (mergeAt' i) Q st:=by
  obtain ⟨sa,na,g,nb,g',e1,e2,h1,h2,h3,h4⟩:=hc.two (i:=i) (by simpa using hi)
  have hsz:=ok.size
  have hks:=ok.keys h0
  have p1:(pendingOf st)[i]?=some (sa,na,g):=by rw [ok.pend];simpa using e1
  have p2:(pendingOf st)[i+1]?=some (sa+na,nb,g'):=by rw [ok.pend];simpa using e2
  unfold mergeAt'
  show wpS _ _ _ _ (_>>=_) _ _
  refine wpS_bind (wpS_get ?_)
  rw [p1,p2]
  dsimp only
  refine wpS_bind (wpS_set ?_)
  have ok1:Ok a₀ (((pendingOf st).setIfInBounds i (sa,na+nb,g)).eraseIdxIfInBounds (i+1)) (SortSt.mk' (kindOf st) (arrOf st) (((pendingOf st).setIfInBounds i (sa,na+nb,g)).eraseIdxIfInBounds (i+1)) (gallopOf st) (failedOf st)) :=
    ⟨ok.perm,ok.kind,ok.failed,rfl⟩
  have z1:(((pendingOf st).setIfInBounds i (sa,na+nb,g)).eraseIdxIfInBounds (i+1)).toList=(p.toList.set i (sa,na+nb,g)).eraseIdx (i+1):=by
    rw [ok.pend,Array.eraseIdxIfInBounds,dif_pos (by simpa using hi)]
    simp
  have c1:Cov (((pendingOf st).setIfInBounds i (sa,na+nb,g)).eraseIdxIfInBounds (i+1)).toList 0 e:=by rw [z1];exact h4
  have n1:(((pendingOf st).setIfInBounds i (sa,na+nb,g)).eraseIdxIfInBounds (i+1)).size+1=p.size:=by
    have:=congrArg List.length z1
    rw [List.length_eraseIdx_of_lt (by simpa using hi),List.length_set] at this
    simp only [Array.length_toList] at this
    lia
  refine wpS_bind (wpS_elem (by show _<(arrOf st).size;lia) ?_)
  refine wpS_bind (wpS_gallop ok1.kind hks (keys_at hks _) (by show _≤(arrOf st).size;lia) (by lia) fun k hk=>?_)
  dsimp only
  by_cases hz:na - k=0
  · rw [if_pos (by simpa using hz)]
    exact wpS_pure (h _ _ ok1 c1 n1)
  rw [if_neg (by simpa using hz)]
  refine wpS_bind (wpS_elem (by show _<(arrOf st).size;lia) ?_)
  refine wpS_bind (wpS_gallop ok1.kind hks (keys_at hks _) (by show _≤(arrOf st).size;lia) (by lia) fun m hm=>?_)
  dsimp only
  by_cases hz2:m=0
  · rw [if_pos (by simpa using hz2)]
    exact wpS_pure (h _ _ ok1 c1 n1)
  rw [if_neg (by simpa using hz2)]
  have ex:(arrOf st).extract (sa+k) (sa+na)=(arrOf st).extract (sa+k) (sa+k+(na - k)):=by congr 1;lia
  have kx:IntKeys ((arrOf st).extract (sa+k) (sa+na)):=by rw [ex];exact keys_ext hks _ _
  have ky:IntKeys ((arrOf st).extract (sa+na) (sa+na+m)):=keys_ext hks _ _
  have xy:((arrOf st).extract (sa+k) (sa+na)).toList++((arrOf st).extract (sa+na) (sa+na+m)).toList=((arrOf st).toList.drop (sa+k)).take (na - k+m):=by
    rw [ex,ext_list,ext_list,List.take_add,List.drop_drop]
    congr 3
    lia
  have fin:∀ (o:Array Keyed) (st':SortSt),Still a₀ (((pendingOf st).setIfInBounds i (sa,na+nb,g)).eraseIdxIfInBounds (i+1)) (arrOf st) st'→o.toList.Perm (((arrOf st).extract (sa+k) (sa+na)).toList++((arrOf st).extract (sa+na) (sa+na+m)).toList)→
      Ok a₀ (((pendingOf st).setIfInBounds i (sa,na+nb,g)).eraseIdxIfInBounds (i+1)) (setArr st' (o.toList.zipIdx.foldl (fun (y:Array Keyed) (q:Keyed×Nat)=>y.setIfInBounds (sa+k+q.2) q.1) (arrOf st'))):=fun o st' ok2 hp=>by
    refine ok2.1.set ?_
    rw [xy] at hp
    rw [ok2.2]
    exact wrote_perm (by lia) hp
  have sx:1≤((arrOf st).extract (sa+k) (sa+na)).size:=by rw [Array.size_extract];lia
  have sy:1≤((arrOf st).extract (sa+na) (sa+na+m)).size:=by rw [Array.size_extract];lia
  by_cases hle:na - k≤m
  · rw [if_pos hle]
    refine wpS_bind (wpS_mergeLo ⟨ok1,rfl⟩ kx ky sx sy fun o st' ok2 hp=>?_)
    refine wpS_bind (wpS_modify (wpS_bind (wpS_get (wpS_pure ?_))))
    have ok3:=fin o st' ok2 hp
    have e3:=ok3.failed
    have:=h _ _ ok3 c1 n1
    rw [show (failedOf st').isNone=true by rw [ok2.1.failed];rfl]
    exact this
  · rw [if_neg hle]
    refine wpS_bind (wpS_mergeHi ⟨ok1,rfl⟩ kx ky sx sy fun o st' ok2 hp=>?_)
    refine wpS_bind (wpS_modify (wpS_bind (wpS_get (wpS_pure ?_))))
    have ok3:=fin o st' ok2 hp
    have:=h _ _ ok3 c1 n1
    rw [show (failedOf st').isNone=true by rw [ok2.1.failed];rfl]
    exact this
end
end Srt
namespace Srt
open PySem PyProof.Rows
section
variable {prog:Program} {w:World} {A:Around} {E:Value→Shared→Prop} {s:Shared} {st:SortSt} {a₀ x₀:Array Keyed} {p:Array (Nat×Nat×Nat)}
theorem Ok.setP (h:Ok a₀ p st) (p':Array (Nat×Nat×Nat)):Ok a₀ p' (setPending st p'):=⟨h.perm,h.kind,h.failed,rfl⟩
theorem wpS_runs {Q:Unit→SortSt→Prop} (h0:IntKeys a₀) (ok:Ok a₀ #[] st) (h:∀ st',(arrOf st').Perm a₀→failedOf st'=none→Q () st'):wpS (model prog w) A E s sortRuns' Q st:=by
  rw [sortRuns'_eq]
  refine wpS_bind (wpS_get ?_)
  dsimp only
  simp only [ok.size]
  refine wpS_bind (wpS_mono (wpS_forRange (I:=fun _ c st'=>∃ lo p,c=(none,lo)∧Ok a₀ p st'∧Cov p.toList 0 lo∧lo≤a₀.size) (Q:=fun c st'=>∃ lo p,c=(none,lo)∧Ok a₀ p st'∧Cov p.toList 0 lo∧lo≤a₀.size) ?step (fun _ _ z=>z) ⟨0,#[],rfl,ok,rfl,by omega⟩) ?post)
  case step =>
    rintro x c st' _ hx ⟨lo,p,rfl,ok',hc,hlo⟩
    dsimp only
    by_cases hz:lo≥a₀.size
    · rw [if_pos hz]
      exact wpS_pure ⟨lo,p,rfl,ok',hc,hlo⟩
    rw [if_neg hz]
    refine wpS_bind (wpS_count h0 (by omega) (by omega) ok' fun m stX ok2 hm1 hm2=>?_)
    dsimp only
    by_cases hmr:m<minRun' a₀.size a₀.size 0
    · rw [if_pos hmr]
      refine wpS_bind (wpS_lift (wpAny_rule ⟨rfl,?_⟩))
      refine wpS_bind (wpS_bin h0 (by omega) ok2 fun stX ok3=>?_)
      rw [if_neg (by decide)]
      refine wpS_bind (wpS_get ?_)
      cases hbk:(pendingOf stX).back? with
      | none =>
        dsimp only
        refine wpS_bind (wpS_modify (wpS_pure ⟨_,_,rfl,Ok.setP ok3 _,?_,by omega⟩))
        show Cov ((pendingOf stX).push _).toList 0 _
        rw [Array.toList_push,Ok.pend ok3]
        exact hc.snoc (by omega)
      | some q =>
        obtain ⟨s1,n1,g1⟩:=q
        dsimp only
        refine wpS_bind (wpS_mono (wpS_forRange (I:=fun _ c st3=>c=(none,())∧∃ p,Ok a₀ p st3∧Cov p.toList 0 lo) (Q:=fun c st3=>c=(none,())∧∃ p,Ok a₀ p st3∧Cov p.toList 0 lo) ?_ (fun _ _ z=>z) ⟨rfl,_,ok3,hc⟩) ?_)
        · rintro y c st3 _ _ ⟨rfl,p3,ok3,hc3⟩
          refine wpS_bind (wpS_get ?_)
          rw [ok3.pend]
          by_cases h2:p3.size>1
          · rw [if_pos h2,getElem?_pos p3 (p3.size - 2) (by omega)]
            generalize p3[p3.size - 2]=q
            obtain ⟨u,v,old⟩:=q
            dsimp only
            split
            · exact wpS_pure ⟨rfl,p3,ok3,hc3⟩
            · exact wpS_bind (wpS_mergeAt h0 ok3 hc3 hlo (by omega) fun p4 st4 ok4 hc4 _=>wpS_pure ⟨rfl,p4,ok4,hc4⟩)
          · rw [if_neg h2]
            exact wpS_pure ⟨rfl,p3,ok3,hc3⟩
        · rintro c st3 ⟨rfl,p3,ok3,hc3⟩
          refine wpS_bind (wpS_modify (wpS_bind (wpS_modify (wpS_pure ⟨_,_,rfl,⟨ok3.perm,ok3.kind,ok3.failed,rfl⟩,?_,by omega⟩))))
          show Cov (((pendingOf st3).modify _ _).push _).toList 0 _
          rw [Array.toList_push,Array.toList_modify,ok3.pend]
          exact (Cov.mod hc3).snoc (by omega)
    · rw [if_neg hmr]
      refine wpS_bind (wpS_get ?_)
      cases hbk:(pendingOf stX).back? with
      | none =>
        dsimp only
        refine wpS_bind (wpS_modify (wpS_pure ⟨_,_,rfl,Ok.setP ok2 _,?_,by omega⟩))
        show Cov ((pendingOf stX).push _).toList 0 _
        rw [Array.toList_push,Ok.pend ok2]
        exact hc.snoc (by omega)
      | some q =>
        obtain ⟨s1,n1,g1⟩:=q
        dsimp only
        refine wpS_bind (wpS_mono (wpS_forRange (I:=fun _ c st3=>c=(none,())∧∃ p,Ok a₀ p st3∧Cov p.toList 0 lo) (Q:=fun c st3=>c=(none,())∧∃ p,Ok a₀ p st3∧Cov p.toList 0 lo) ?_ (fun _ _ z=>z) ⟨rfl,_,ok2,hc⟩) ?_)
        · rintro y c st3 _ _ ⟨rfl,p3,ok3,hc3⟩
          refine wpS_bind (wpS_get ?_)
          rw [ok3.pend]
          by_cases h2:p3.size>1
          · rw [if_pos h2,getElem?_pos p3 (p3.size - 2) (by omega)]
            generalize p3[p3.size - 2]=q
            obtain ⟨u,v,old⟩:=q
            dsimp only
            split
            · exact wpS_pure ⟨rfl,p3,ok3,hc3⟩
            · exact wpS_bind (wpS_mergeAt h0 ok3 hc3 hlo (by omega) fun p4 st4 ok4 hc4 _=>wpS_pure ⟨rfl,p4,ok4,hc4⟩)
          · rw [if_neg h2]
            exact wpS_pure ⟨rfl,p3,ok3,hc3⟩
        · rintro c st3 ⟨rfl,p3,ok3,hc3⟩
          refine wpS_bind (wpS_modify (wpS_bind (wpS_modify (wpS_pure ⟨_,_,rfl,⟨ok3.perm,ok3.kind,ok3.failed,rfl⟩,?_,by omega⟩))))
          show Cov (((pendingOf st3).modify _ _).push _).toList 0 _
          rw [Array.toList_push,Array.toList_modify,ok3.pend]
          exact (Cov.mod hc3).snoc (by omega)
  case post =>
    rintro c st' ⟨lo,p,rfl,ok',hc,hlo⟩
    dsimp only
    refine wpS_bind (wpS_mono (wpS_forRange (I:=fun _ c st3=>c=(none,())∧∃ p,Ok a₀ p st3∧Cov p.toList 0 lo) (Q:=fun c st3=>c=(none,())∧∃ p,Ok a₀ p st3∧Cov p.toList 0 lo) ?_ (fun _ _ z=>z) ⟨rfl,_,ok',hc⟩) ?_)
    · rintro y c st3 _ _ ⟨rfl,p3,ok3,hc3⟩
      refine wpS_bind (wpS_get ?_)
      rw [ok3.pend]
      by_cases h2:p3.size≤1
      · rw [if_pos h2]
        exact wpS_pure ⟨rfl,p3,ok3,hc3⟩
      · rw [if_neg h2]
        have hi:∀ (c:Prop) [Decidable c],(if c then p3.size - 2 - 1 else p3.size - 2)+1<p3.size:=fun c _=>by
          by_cases hc:c
          · rw [if_pos hc];omega
          · rw [if_neg hc];omega
        exact wpS_bind (wpS_mergeAt h0 ok3 hc3 hlo (hi _) fun p4 st4 ok4 hc4 _=>wpS_pure ⟨rfl,p4,ok4,hc4⟩)
    · rintro c st3 ⟨rfl,p3,ok3,hc3⟩
      exact wpS_pure (h _ ok3.perm ok3.failed)
end
end Srt
namespace Srt
open PySem PyProof.Rows
theorem perm_out {vs:List Value} {ns:List Int} (hI:IntsAre vs ns) {xs:Array Keyed} (hp:xs.Perm (pairsOf vs)):∃ ns',IntsAre (xs.map (·.2)).toList ns'∧ns'.Perm ns:=by
  have hq:(xs.map (·.2)).toList.Perm vs:=by
    have h1:=(Array.perm_iff_toList_perm.mp hp).map (·.2)
    have h2:(pairsOf vs).toList.map (·.2)=vs:=by rw [pairsOf_toList];exact List.map_snd_zip (Nat.le_refl _)
    rw [h2] at h1
    rwa [Array.toList_map]
  refine ⟨_,intsAre_map _ fun v hv=>hI.all v (hq.mem_iff.mp hv),?_⟩
  rw [← hI.nums]
  exact hq.map numOf
section
variable {prog:Program} {w:World} {A:Around} {E:Value→Shared→Prop} {s:Shared}
theorem list_sort_any {l:Addr} {vs:List Value} {ns:List Int} {n:Nat} {P:Fin→Shared→Prop} (at_:s.heap.get? l=some (seqObj "list" vs.toArray n)) (hI:IntsAre vs ns) (hz:vs.length≤sizeLine)
    (h:∀ (out:Array Value) (ns':List Int),IntsAre out.toList ns'→ns'.Perm ns→P (.done (.ret .none)) {s with heap:=sortedHeap s.heap l vs out}) :
    wpAny (model prog w) A (Builtin.«list.sort» ⟨[.ref l],[]⟩) P E s:=by
  have hlt:l<s.heap.objs.size:=Heap.lt_size at_
  have hsz:vs.toArray.size=vs.length:=by simp
  rw [list_sort_plain]
  obtain ⟨e1,at1⟩:∃ e1,(s.heap.update l (Obj.mapSeq fun _=>#[])).get? l=some (seqObj "list" #[] e1):=⟨_,get?_update_seq at_ (fun _=>#[])⟩
  refine wpAny_bind (listItems_at at_ rfl (wpAny_bind (listUpdate_at at_ rfl (wpAny_bind (seqEpoch_at at1 rfl (wpAny_bind (wpAny_newTuple (wpAny_bind (wpAny_newList (wpAny_holding ?_))))))) (by omega) (by simp))))
  have at2:(((s.heap.update l (Obj.mapSeq fun _=>#[])).push (seqObj "tuple" vs.toArray 0)).push (seqObj "list" #[] 0)).get? l=some (seqObj "list" #[] e1):=by
    refine Heap.get?_push_of_some _ (Heap.get?_push_of_some _ at1)
  show wpAny (model prog w) A _ P E {s with heap:=((s.heap.update l (Obj.mapSeq fun _=>#[])).push (seqObj "tuple" vs.toArray 0)).push (seqObj "list" #[] 0)}
  dsimp only
  have fin:∀ st':SortSt,(arrOf st').Perm (pairsOf vs)→P (.done (.ret .none)) {s with heap:=sortedHeap s.heap l vs ((arrOf st').map (·.2))}:=fun st' hp=>by
    obtain ⟨ns',h1,h2⟩:=perm_out hI hp
    exact h _ ns' h1 h2
  have big:∀ st':SortSt,(arrOf st').Perm (pairsOf vs)→((arrOf st').map (·.2)).size≤sizeLine+1:=fun st' hp=>by
    rw [Array.size_map,hp.size_eq,pairsOf_size];omega
  by_cases h2:vs.toArray.size<2
  · rw [if_pos h2,if_pos h2]
    refine wpAny_bind (wpAny_pure (show wpAny _ _ _ _ _ _ from ?_))
    rw [StateT.run_pure]
    refine wpAny_bind (wpAny_pure (wpAny_bind (seqEpoch_at at2 rfl (wpAny_bind (listUpdate_at at2 rfl ?_ (by simp) (big (SortSt.mk' general' (vs.toArray.zip vs.toArray) #[] 7 none) (Array.Perm.refl _)))))))
    simp only [bne_self_eq_false,Bool.false_eq_true,if_false]
    exact wpAny_pure (fin (SortSt.mk' general' (vs.toArray.zip vs.toArray) #[] 7 none) (Array.Perm.refl _))
  · rw [if_neg h2,if_neg h2]
    obtain ⟨v1,v2,r,rfl⟩:∃ v1 v2 r,vs=v1::v2::r:=by
      rcases vs with _ | ⟨v1,_ | ⟨v2,r⟩⟩
      · simp at h2
      · simp at h2
      · exact ⟨v1,v2,r,rfl⟩
    rw [keyKind_ints hI]
    refine wpAny_bind (wpAny_pure (wpAny_bind (wpAny_mono (wpS_runs (a₀:=pairsOf (v1::v2::r)) (st:=SortSt.mk' oneType' ((v1::v2::r).toArray.zip (v1::v2::r).toArray) #[] 7 none)
      (Q:=fun _ st'=>(arrOf st').Perm (pairsOf (v1::v2::r))∧failedOf st'=none) hI.intKeys ⟨Array.Perm.refl _,rfl,rfl,rfl⟩ fun st' a1 a2=>⟨a1,a2⟩) ?_ fun _ _ e=>e)))
    rintro ⟨⟨⟩,st'⟩ s' ⟨rfl,hp,hf⟩
    dsimp only
    refine wpAny_bind (seqEpoch_at at2 rfl (wpAny_bind (listUpdate_at at2 rfl ?_ (by simp) (big st' hp))))
    rw [hf]
    simp only [bne_self_eq_false,Bool.false_eq_true,if_false]
    exact wpAny_pure (fin st' hp)
end
end Srt
namespace Srt
open PySem PyProof.Rows
section
variable {prog:Program} {w:World} {A:Around} {E:Value→Shared→Prop} {s:Shared} {T:String} {r d:Addr} {n:Nat} {P:Nat→Value→Prop} {OK:Heap→Prop}
theorem gather_src {R:Result→Shared→Prop} (K:PySem.W.KdlSrc prog w T r d n P OK) (hh:A.handled=none) (hok:OK s.heap) (hn:n≤sizeLine)
    (h:∀ h' tk acc c,(∀ b o,s.heap.get? b=some o→h'.get? b=some o)→h'.get? s.heap.objs.size=some {cls:=.type "list",dict:=none,data:=.seq acc c,slots:=#[]}→ItemsOf P acc n→R (.ok (.ret (.ref s.heap.objs.size))) {s with heap:=h',toks:=tk}) :
    codeAny (model prog w) A (.builtin "proto.collect" ⟨[.ref r],[]⟩) R s:=by
  have lt:=K.there _ hok
  refine codeAny_builtin PySem.F.entry_proto_collect ?_
  rw [Around.under_plainId PySem.F.plain_proto_collect _]
  show wpAny _ A.in1 (newList []>>=fun l=>again (.builtin "list.__iadd__" ⟨[l,.ref r],[]⟩)) _ _ s
  refine wpAny_bind (wpAny_newObj_type (wpAny_pure ⟨plainId_quiet PySem.F.plain_list_iadd _,codeAny_builtin PySem.F.entry_list_iadd ?_⟩))
  rw [Around.under_plainId PySem.F.plain_list_iadd _]
  show wpAny _ A.in1 (Builtin.List.listExtendWith (.ref s.heap.objs.size) (.ref r) (.ref s.heap.objs.size)) _ _ _
  exact PySem.W.kdl_extend (R:=R) (s:={s with heap:=s.heap.push {cls:=.type "list",data:=.seq ([]:List Value).toArray}}) K hh (K.keep _ _ hok fun b _ o e=>Heap.get?_push_of_some _ e) s.heap.objs.size (Nat.ne_of_gt lt.1) (Nat.ne_of_gt lt.2) _ 0 (Heap.get?_push_size _ rfl)
    (fun h' tk acc c k hS hacc=>h h' tk acc c (fun b o e=>k b o (Nat.ne_of_lt (Heap.lt_size e)) (Heap.get?_push_of_some _ e)) hS hacc) hn
theorem collect_src {Q:List Value→Shared→Prop} (K:PySem.W.KdlSrc prog w T r d n P OK) (hh:A.handled=none) (hok:OK s.heap) (hn:n≤sizeLine)
    (h:∀ h' tk acc,(∀ b o,s.heap.get? b=some o→h'.get? b=some o)→s.heap.objs.size<h'.objs.size→ItemsOf P acc n→Q acc.toList {s with heap:=h',toks:=tk}):wpAny (model prog w) A (collect (.ref r)) Q E s:=by
  unfold collect
  refine wpAny_bind (wpAny_runValue (gather_src K hh hok hn fun h' tk acc c k hS hacc=>?_))
  show wpAny _ A (load s.heap.objs.size>>=_) _ _ _
  exact wpAny_bind (wpAny_load hS (wpAny_pure (h h' tk acc k (Heap.lt_size hS) hacc)))
theorem sorted_heap {h:Heap} {l:Addr} {vs:List Value} {out:Array Value} {c:Nat} (e:h.get? l=some (seqObj "list" vs.toArray c)) :
    (∃ c',(sortedHeap h l vs out).get? l=some (seqObj "list" out c'))∧∀ b o,b≠l→h.get? b=some o→(sortedHeap h l vs out).get? b=some o:=by
  unfold sortedHeap
  constructor
  · exact ⟨_,get?_update_seq (Heap.get?_push_of_some _ (Heap.get?_push_of_some _ (get?_update_seq e _))) _⟩
  · intro b o hb q
    refine (Heap.get?_update_other _ _ (Ne.symm hb)).trans (Heap.get?_push_of_some _ (Heap.get?_push_of_some _ ?_))
    exact (Heap.get?_update_other _ _ (Ne.symm hb)).trans q
theorem sorted_src {ns:List Int} {Q:Value→Shared→Prop} (K:PySem.W.KdlSrc prog w T r d n P OK) (hh:A.handled=none) (hok:OK s.heap) (hn:n≤sizeLine) (hi:∀ acc,ItemsOf P acc n→IntsAre acc.toList ns)
    (h:∀ h' tk D c (out:Array Value) (ns':List Int),(∀ b o,s.heap.get? b=some o→h'.get? b=some o)→s.heap.objs.size≤D→h'.get? D=some (seqObj "list" out c)→IntsAre out.toList ns'→ns'.Perm ns→Q (.ref D) {s with heap:=h',toks:=tk}) :
    wpAny (model prog w) A (call (.builtin "sorted") [.ref r]) Q E s:=by
  refine Calls.call_function_entry kind_sorted plain_sorted entry_sorted (args_sorted1 _) ?_
  unfold Builtin.«sorted»
  refine wpAny_bind (m:=checkCount "sorted" 1 1 _) (wpAny_pure (wpAny_bind (collect_src K (by exact hh) hok hn fun h1 tk acc k1 z1 hacc=>?_)))
  have hI:=hi acc hacc
  have hz:acc.toList.length≤sizeLine:=by rw [Array.length_toList,hacc.1];exact hn
  refine wpAny_bind (wpAny_newList ?_ (hsz:=hz))
  have at1:(h1.push (seqObj "list" acc.toList.toArray 0)).get? h1.objs.size=some (seqObj "list" acc.toList.toArray 0):=Heap.get?_push_size _ rfl
  refine wpAny_bind (wpAny_holding (wpAny_call_entry slot_list_sort ⟨_,at1,rfl⟩ entry_list_sort (list_sort_any at1 hI hz fun out ns' a1 a2=>⟨_,rfl,?_⟩) (args_list_sort _)))
  obtain ⟨⟨c',g1⟩,g2⟩:=sorted_heap (out:=out) at1
  refine wpAny_pure ⟨_,rfl,h _ _ _ c' out ns' (fun b o e=>?_) ?_ g1 a1 a2⟩
  · have e1:=k1 b o e
    exact g2 b o (Nat.ne_of_lt (Heap.lt_size e1)) (Heap.get?_push_of_some _ e1)
  · exact Nat.le_of_lt z1
end
end Srt
namespace L2
open PySem PySem.Spec PyProof.Rows
theorem keys_ints {P:Program} {w:World} {vs:List (Key×Value)} {ns:List Int} (hk:vs.map (·.1)=ns.map Sum.inl) {acc:Array Value} (h:ItemsOf (fun i v=>∃ k x,vs[i]?=some (k,x)∧(mixKind P w).is k v=true) acc vs.length):IntsAre acc.toList ns:=by
  have hl:vs.length=ns.length:=by simpa using congrArg List.length hk
  have at_:∀ (i:Nat) (v:Value),acc.toList[i]?=some v→∃ n t,ns[i]?=some n∧v=Value.int n t:=fun i v e=>by
    obtain ⟨k,x,h1,h2⟩:=h.2 i v (by rw [← Array.getElem?_toList];exact e)
    have h3:(vs.map (·.1))[i]?=some k:=by rw [List.getElem?_map,h1];rfl
    rw [hk,List.getElem?_map] at h3
    cases q:ns[i]? with
    | none=>rw [q] at h3;cases h3
    | some m =>
      rw [q] at h3
      have h4:Sum.inl m=k:=Option.some.inj h3
      subst h4
      have h5:keyIs (Sum.inl m) v=true:=h2
      rcases keyIs_shape h5 with ⟨i',t,e1,e2⟩ | ⟨y,t,e1,_⟩
      · cases e1;exact ⟨m,t,rfl,e2⟩
      · cases e1
  have all:∀ v:Value,v∈acc.toList→∃ n t,v=Value.int n t:=fun v hv=>by
    obtain ⟨i,hi⟩:=List.getElem?_of_mem hv
    obtain ⟨n,t,_,e⟩:=at_ i v hi
    exact ⟨n,t,e⟩
  have hm:=intsAre_map _ all
  have e:acc.toList.map numOf=ns:=by
    apply List.ext_getElem?
    intro i
    rw [List.getElem?_map]
    cases q:acc.toList[i]? with
    | none =>
      have:acc.size≤i:=by simpa using q
      have hs:=h.1
      rw [List.getElem?_eq_none (by lia)]
      rfl
    | some v =>
      obtain ⟨n,t,e1,e2⟩:=at_ i v q
      rw [e1,e2]
      rfl
  rw [e] at hm
  exact hm
section
variable {X:Cx}
theorem call_sortedD (hc:X.calm=true):CallR X (.builtin "sorted") (fun xs H Q=>∃ (a:Addr) (kvs:List (Key×V)) (ns:List Int),xs=[.ref a]∧Rd H a (.dK kvs)∧kvs.map (·.1)=ns.map Sum.inl∧
    ∀ (l:Addr) (ns':List Int),H l=none→ns'.Perm ns→Q (.ref l) (upd H l (.lst (ns'.map V.int)))):=by
  intro pins s σ H xs us Q I r h
  obtain ⟨a,kvs,ns,rfl,e,hk,q⟩:=h
  obtain ⟨u,rfl,ru⟩:=vals1 r
  cases ru
  obtain ⟨z,hd,vs,rel,o,es,ep,ho,dd⟩:=dk_rd I.hok e
  have hkv:vs.map (·.1)=ns.map Sum.inl:=by rw [← rel.keys];exact hk
  have hl:vs.length=ns.length:=by simpa using congrArg List.length hkv
  refine Srt.sorted_src (ns:=ns) (PySem.W.kdl_dict (ep:=ep) (kvs:=vs) (knd:=mixKind X.prog X.w) hd) (I.ok.hd hc) ⟨o,es,ho,dd⟩ (by rw [← rel.length];exact z) (fun acc hacc=>keys_ints hkv hacc) fun h' tk D c out ns' k hD hg hI hp=>?_
  have hz:(ns'.map V.int).length≤sizeLine:=by rw [List.length_map,hp.length_eq,← hl,← rel.length];exact z
  exact ⟨.ref D,_,I.laid (a:=D) (o:=.lst (ns'.map V.int)) (t':=tk) k hD ⟨hz,out.toList,c,vals_ints hI,by simpa using hg⟩,rfl,q D ns' (I.hok.fresh hD) hp⟩
end
end L2
namespace PySem
open Sem (wp)
theorem list_no_keys:typeLookup (.type "list") "keys"=pure none:=by rw [typeLookup_type,builtinLookup_eq_fast];kernel_rfl
theorem noAttr_list {prog:Program} {w:World} {A:Around} {E:Value→Shared→Prop} {s:Shared} {a:Addr} {o:Obj} {xs:Array Value} {k:Nat} {name:Str} {Q:Option Value→Shared→Prop}
    (hx:s.heap.get? a=some o) (hc:o.cls=.type "list") (hdat:o.data=.seq xs k) (hd:o.dict=none) (hmiss:typeLookup (.type "list") name=pure none) (hname:(["__module__","__name__","__qualname__","__doc__","__annotations__"]:List Str).contains name=false) (hA:A.handled=none)
    (h:∀ h' tk,(∀ b ob,s.heap.get? b=some ob→h'.get? b=some ob)→Q none {s with heap:=h',toks:=tk}) (hsz:name.length+100≤sizeLine:=by size_fits) :
    wpAny (model prog w) A (getAttr? (.ref a) name) Q E s:=by
  obtain ⟨c,dct,dat,sl⟩:=o
  simp only at hc hdat hd
  subst hc hdat hd
  obtain ⟨hp,g,d,tk,os⟩:=s
  have hT:∀ tk',(⟨hp,g,d,tk',os⟩:Shared).TypeIs (.ref a) "list":=fun _=>⟨_,hx,rfl⟩
  have f1:=sub_AttributeError
  have f3:=F.slot_list_getattribute.lookup
  have f4:=F.slot_list_getattribute.bind (.ref a)
  have f5:=am_list_getattr_none
  unfold getAttr? getAttrBy? getAttrBy
  repeat (any_goals (first | assumption | exact hT _ | ((with_reducible show wpAny _ _ (call (Value.builtin "list.__getattribute__") _ _) _ _ _);refine call_meets F.slot_list_getattribute (hT _) am_entry_list_getattribute (F.args_list_getattribute_2 _ _) (meets_getattribute_miss_list a xs k sl name _ hmiss hname hsz) ⟨hx,hA,fun h' tk' e hx'=>?_⟩) | wp_step))
  obtain ⟨t',u',he⟩:=hx'.there
  show wpAny _ _ (getattributeRaised _ _ _ _ _ _ _) _ _ _
  unfold getattributeRaised
  repeat (any_goals (first | assumption | wp_step))
  exact h _ _ hx'.keeps
end PySem
namespace PySem
open Sem (wp)
namespace F
theorem entry_dict_update_loop:entryFor table "dict.update.loop"=some Builtin.«dict.update.loop»:=entryFor_of_tree (by kernel_rfl)
theorem plain_dict_update_loop:plainId "dict.update.loop"=true:=by decide +kernel
end F
section
variable {prog:Program} {w:World} {A:Around} {R:Result→Shared→Prop} {I:Addr} {fp wr:List Addr} {G:Array GenState→Array GenState→Prop} {n:Nat} {P:Nat→Value→Prop} {St:Nat→Shared→Prop}
variable {K:Type} [DecidableEq K] {knd:KeyKind prog w K}
theorem merged_len (rs:List (K×Value)):(merged [] rs).length≤rs.length:=by
  have gen:∀ (rs kvs:List (K×Value)),(merged kvs rs).length≤kvs.length+rs.length:=by
    intro rs
    induction rs with
    | nil=>intro kvs;simp [merged]
    | cons p r ih =>
      intro kvs
      have h:=ih (stored kvs p.1 p.2)
      have h2:(stored kvs p.1 p.2).length≤kvs.length+1:=by
        unfold stored
        split <;> simp
      show (merged (stored kvs p.1 p.2) r).length≤_
      simp only [List.length_cons]
      lia
  simpa using gen rs []
theorem codeAny_dict_pairs (W:WalksS prog w A.in1 I fp wr G n P St) (S:Addr) (hSf:S∉fp) (res:Value) (rs:List (K×Value)) (hn:rs.length=n) (hz:n≤sizeLine) (s0:Shared)
    (hval:∀ i v,P i v→∃ k x,rs[i]?=some (k,x)∧∀ h:Heap,(∀ b o,b∉S::wr→s0.heap.get? b=some o→h.get? b=some o)→∃ t o c key,v=.ref t∧h.get? t=some o∧o.cls=.type "tuple"∧o.data=.seq #[key,x] c∧knd.is k key=true) :
    ∀ (k i:Nat) (tk:Tok) (s:Shared),n - i=k→i≤n→St i s→(∀ b o,b∉S::wr→s0.heap.get? b=some o→s.heap.get? b=some o)→
      s.heap.DictOf knd S (merged [] (rs.take i))→
      (∀ s',Moved (S::wr) G s s'→s'.heap.DictOf knd S (merged [] rs)→R (.ok (.ret res)) s')→
      codeAny (model prog w) A (.builtin "dict.update.loop" ⟨[.ref S,.ref I,.int (i:Int) tk,res],[]⟩) R s:=by
  have hSw:S∉wr:=fun h=>hSf (W.sub _ h)
  have hsub:∀ b∈wr,b∈S::wr:=fun b hb=>List.mem_cons_of_mem _ hb
  intro k
  induction k with
  | zero =>
    intro i tk s hk hi hst h0 hS hR
    have hin:i=n:=by lia
    refine codeAny_builtin F.entry_dict_update_loop ?_
    rw [Around.under_plainId F.plain_dict_update_loop _]
    show wpAny _ A.in1 (pyNext (.ref I)>>=_) _ _ s
    refine wpAny_bind (W.done s _ _ (hin▸hst) fun s' hm=>?_)
    show wpAny _ A.in1 (Builtin.Dict.addKeywords S []>>=fun _=>ret res) _ _ s'
    refine wpAny_bind ?_
    unfold Builtin.Dict.addKeywords
    show wpAny _ A.in1 (pure ()) _ _ s'
    refine wpAny_pure (wpAny_pure (hR s' (hm.mono hsub) ?_))
    rw [hin,List.take_of_length_le (by lia)] at hS
    obtain ⟨o,es,ep,ho,rest⟩:=hS
    exact ⟨o,es,ep,hm.heap S _ hSw ho,rest⟩
  | succ k ih =>
    intro i tk s hk hi hst h0 hS hR
    have hlt:i<n:=by lia
    refine codeAny_builtin F.entry_dict_update_loop ?_
    rw [Around.under_plainId F.plain_dict_update_loop _]
    show wpAny _ A.in1 (pyNext (.ref I)>>=_) _ _ s
    refine wpAny_bind (W.item i s _ _ hlt hst fun v s' hP hst' hm=>?_)
    have h0':∀ b o,b∉S::wr→s0.heap.get? b=some o→s'.heap.get? b=some o:=fun b o hb e=>hm.heap b o (fun z=>hb (hsub b z)) (h0 b o hb e)
    obtain ⟨k',x,hr,ht⟩:=hval i v hP
    obtain ⟨t,o,c,key,rfl,ho,hc,hd,hkey⟩:=ht s'.heap h0'
    have hS':s'.heap.DictOf knd S (merged [] (rs.take i)):=by
      obtain ⟨o,es,ep,ho,rest⟩:=hS
      exact ⟨o,es,ep,hm.heap S _ hSw ho,rest⟩
    have hT:s'.TypeIs (.ref t) "tuple":=⟨o,ho,hc⟩
    have hlen:(merged [] (rs.take i)).length≤sizeLine:=by
      have:=merged_len (rs.take i)
      rw [List.length_take] at this
      lia
    refine wpAny_bind (wpAny_holding ?_)
    refine wpAny_bind (wpAny_tryCatch ?_)
    unfold Builtin.Dict.pairItems
    refine wpAny_bind (wpAny_typeOf hT ?_)
    refine wpAny_ite_split (fun _=>?_) (fun hab=>absurd (by decide) hab)
    repeat (any_goals (first | assumption | wp_step))
    rw [hd]
    refine wpAny_pure (wpAny_pure ?_)
    show wpAny _ _ (holding [key,x] (dictSet S key x)) _ _ _
    refine wpAny_holding (wpAny_dictSet_pairs hkey hS' (fun h' hD hsb=>?_) hlen)
    refine wpAny_pure ⟨plainId_quiet F.plain_dict_update_loop _,?_⟩
    have ei:rawInt ((i:Int)+1)=rawInt ((i+1:Nat):Int):=by push_cast;rfl
    rw [ei]
    have other:∀ b o,b≠S→s'.heap.get? b=some o→h'.get? b=some o:=fun b o hb e=>(hsb.2 b hb).trans e
    refine ih (i+1) _ _ (by lia) hlt (W.frame _ s' _ _ hst' (Nat.le_succ _) fun b hb o e=>other b o (fun h:b=S=>hSf (by rw [← h];exact hb)) e)
      (fun b o hb e=>other b o (fun h:b=S=>hb (by rw [h];exact List.mem_cons_self)) (h0' b o hb e)) ?_ fun s'' hm'' hS''=>?_
    · rw [merged_take_succ [] rs i (k',x) hr]
      exact hD
    · refine hR s'' (Moved.trans W.gtrans ((hm.mono hsub).then_heap (Nat.le_succ _) fun b o hb e=>?_) hm'') hS''
      exact other b o (fun h:b=S=>hb (by rw [h];exact List.mem_cons_self)) e
end
end PySem
namespace PySem
open Sem (wp)
section
variable {prog:Program} {w:World} {A:Around} {E:Value→Shared→Prop} {s:Shared}
variable {K:Type} [DecidableEq K] {knd:KeyKind prog w K}
theorem call_dict_pairs {l:Addr} {items:Array Value} {c:Nat} {Q:Value→Shared→Prop} (hh:A.handled=none) (hl:s.heap.get? l=some {cls:=.type "list",data:=.seq items c}) (hz:items.size≤sizeLine) (rs:List (K×Value)) (hn:rs.length=items.size)
    (hval:∀ (i:Nat) v,items[i]?=some v→∃ k x,rs[i]?=some (k,x)∧∃ t o c key,v=.ref t∧s.heap.get? t=some o∧o.cls=.type "tuple"∧o.data=.seq #[key,x] c∧knd.is k key=true)
    (hQ:∀ h' tk,h'.DictOf knd s.heap.objs.size (merged [] rs)→(∀ b o,s.heap.get? b=some o→h'.get? b=some o)→Q (.ref s.heap.objs.size) {s with heap:=h',toks:=tk}) :
    wpAny (model prog w) A (call (.type "dict") [.ref l]) Q E s:=by
  refine callType_codes (Q₁:=fun obj s₁=>obj=.ref s.heap.objs.size∧s₁={s with heap:=s.heap.push {cls:=.type "dict",data:=.dict #[]}}) F.kt_called_dict (F.kt_typeCall_dict_1 _) F.entry_dict_init (kt_code_dict_new _ ⟨rfl,rfl⟩) ?_
  rintro obj s₁ ⟨rfl,rfl⟩
  have hnew:(s.heap.push {cls:=.type "dict",data:=.dict #[]}).DictOf knd s.heap.objs.size []:=Heap.DictOf.new s.heap
  have hl1:(s.heap.push {cls:=.type "dict",data:=.dict #[]}).get? l=some {cls:=.type "list",data:=.seq items c}:=Heap.get?_push_of_some _ hl
  have hlS:l<s.heap.objs.size:=Heap.lt_size hl
  refine ⟨hnew.typeIs,F.args_dict_init_2 _ _,?_⟩
  unfold Builtin.«dict.__init__»
  refine wpAny_bind ?_
  unfold Builtin.Dict.selfAndRest
  refine wpAny_bind (wpAny_notOrdered_dict hnew.typeIs ?_)
  show wpAny _ _ (pure (s.heap.objs.size,[Value.ref l])) _ _ _
  refine wpAny_pure ?_
  show wpAny _ _ (Builtin.Dict.updateFrom "dict.__init__" s.heap.objs.size (.ref l) [] .none) _ _ _
  unfold Builtin.Dict.updateFrom
  refine wpAny_bind (wpAny_typeOf (T:="list") ⟨_,hl1,rfl⟩ ?_)
  rw [if_pos (by decide)]
  refine wpAny_bind (noAttr_list hl1 rfl rfl rfl list_no_keys (by decide) (by simpa using hh) fun h1 tk1 k1=>?_)
  refine wpAny_ite_split (fun _=>?_) (fun hab=>absurd rfl hab)
  refine wpAny_bind (wpAny_rule ?_)
  have hl2:=k1 _ _ hl1
  refine wpAny_bind (wpAny_pyIter_list ⟨_,hl2,rfl,c,rfl⟩ ?_)
  refine wpAny_pure ⟨plainId_quiet F.plain_dict_update_loop _,?_⟩
  have hd1:(s.heap.push {cls:=.type "dict",data:=.dict #[]}).get? s.heap.objs.size=some {cls:=.type "dict",data:=.dict #[]}:=Heap.get?_push_size _ rfl
  have hd2:=k1 _ _ hd1
  have hz1:s.heap.objs.size<h1.objs.size:=Heap.lt_size hd2
  have lI:l≠h1.objs.size:=Nat.ne_of_lt (Nat.lt_trans hlS hz1)
  have hSf:s.heap.objs.size∉[h1.objs.size,l]:=by
    simp only [List.mem_cons,List.not_mem_nil,or_false,not_or]
    exact ⟨Nat.ne_of_lt hz1,Nat.ne_of_gt hlS⟩
  have hh3:A.in1.in1.handled=none:=by simpa using hh
  have W:=(Walks.list (prog:=prog) (w:=w) (A:=A.in1.in1) hh3 h1.objs.size l lI items).toS
  have keep:∀ b o,s.heap.get? b=some o→b∉s.heap.objs.size::[h1.objs.size]:=fun b o e z=>by
    have hb:=Heap.lt_size e
    simp only [List.mem_cons,List.not_mem_nil,or_false] at z
    rcases z with z | z
    · rw [z] at hb;exact Nat.lt_irrefl _ hb
    · rw [z] at hb;exact Nat.lt_irrefl _ (Nat.lt_trans hb hz1)
  refine codeAny_dict_pairs (A:=A.in1) (knd:=knd) W s.heap.objs.size hSf .none rs hn hz s (fun i v hv=>?_) items.size 0 0 _ (by lia) (Nat.zero_le _) ⟨⟨_,Heap.get?_push_size _ rfl,rfl,rfl⟩,⟨_,Heap.get?_push_of_some _ hl2,rfl,c,rfl⟩⟩ (fun b o _ e=>Heap.get?_push_of_some _ (k1 _ _ (Heap.get?_push_of_some _ e))) ?_ fun s' hm hS=>?_
  · obtain ⟨k,x,hr,t,o,c',key,e1,e2,e3,e4,e5⟩:=hval i v hv
    exact ⟨k,x,hr,fun h hk=>⟨t,o,c',key,e1,hk t o (keep t o e2) e2,e3,e4,e5⟩⟩
  · obtain ⟨o,es,ep,ho,rest⟩:=hnew
    exact ⟨o,es,ep,Heap.get?_push_of_some _ (k1 _ _ ho),rest⟩
  · rw [Moved.eq_with hm]
    refine ⟨rfl,hQ s'.heap s'.toks hS fun b o e=>hm.heap b o (keep b o e) (Heap.get?_push_of_some _ (k1 _ _ (Heap.get?_push_of_some _ e)))⟩
end
end PySem
namespace Me
noncomputable def look (f:List (Int×Int)) (k:Int):Option Int:=(f.find? fun q=>decide (q.1=k)).map (·.2)
noncomputable def put (f:List (Int×Int)) (k v:Int):List (Int×Int) :=
  if (f.any fun p=>decide (p.1=k))=true then f.map (fun p=>if p.1=k then (p.1,v) else p) else f++[(k,v)]
noncomputable def addTo (f:List (Int×Int)) (k n:Int):List (Int×Int):=put f k ((look f k).getD 0+n)
noncomputable def figs (p:Int×Int) (w:Int) (n:Nat) (acc:List (Int×Int)):List (Int×Int):=(List.range n).foldl (fun acc (d:Nat)=>addTo acc (p.1+(d:Int)*w) p.2) acc
noncomputable def oneMore (f:List (Int×Int)) (b:Nat) (w:Int):List (Int×Int):=f.foldl (fun acc p=>figs p w b acc) []
noncomputable def waysW (b:Nat) (ws:List Int):List (Int×Int):=ws.foldl (fun f w=>oneMore f b w) [(0,1)]
noncomputable abbrev keys (f:List (Int×Int)):List Int:=f.map (·.1)
theorem figs_succ (p:Int×Int) (w:Int) (n:Nat) (acc:List (Int×Int)):figs p w (n+1) acc=addTo (figs p w n acc) (p.1+(n:Int)*w) p.2:=by
  unfold figs
  rw [List.range_succ,List.foldl_append]
  rfl
theorem oneMore_take {f:List (Int×Int)} {b i:Nat} {w:Int} {p:Int×Int} (h:f[i]?=some p):oneMore (f.take (i+1)) b w=figs p w b (oneMore (f.take i) b w):=by
  unfold oneMore
  rw [List.take_add_one,h,List.foldl_append]
  rfl
theorem waysW_take {b i:Nat} {ws:List Int} {w:Int} (h:ws[i]?=some w):waysW b (ws.take (i+1))=oneMore (waysW b (ws.take i)) b w:=by
  unfold waysW
  rw [List.take_add_one,h,List.foldl_append]
  rfl
theorem keys_repl (f:List (Int×Int)) (k v:Int):keys (f.map fun p=>if p.1=k then (p.1,v) else p)=keys f:=by
  rw [keys,List.map_map]
  apply List.map_congr_left
  intro p _
  show (if p.1=k then (p.1,v) else p).1=p.1
  split <;> rfl
theorem keys_put {f:List (Int×Int)} {k v:Int}:(keys f).Nodup→(keys (put f k v)).Nodup:=by
  intro nd
  unfold put
  split
  · rw [keys_repl];exact nd
  · rename_i h
    have hn:k∉keys f:=fun z=>h (by
      obtain ⟨p,hp,e⟩:=List.mem_map.mp z
      exact List.any_eq_true.mpr ⟨p,hp,by simpa using e⟩)
    rw [keys,List.map_append]
    refine List.nodup_append.mpr ⟨nd,by simp,fun a ha b hb=>?_⟩
    have:b=k:=by simpa using hb
    rw [this]
    exact fun z=>hn (z▸ha)
theorem keys_in {f:List (Int×Int)} {k v lo hi:Int} (h:∀ x∈keys f,lo≤x∧x≤hi) (hk:lo≤k∧k≤hi):∀ x∈keys (put f k v),lo≤x∧x≤hi:=by
  unfold put
  split
  · rw [keys_repl];exact h
  · intro x hx
    rw [keys,List.map_append] at hx
    rcases List.mem_append.mp hx with hx | hx
    · exact h x hx
    · have:x=k:=by simpa using hx
      rw [this];exact hk
structure Ok (f:List (Int×Int)) (m:Int):Prop where
  nd:(keys f).Nodup
  bd:∀ x∈keys f,-m≤x∧x≤m
theorem Ok.put {f:List (Int×Int)} {m k v:Int} (o:Ok f m) (h : -m≤k∧k≤m):Ok (put f k v) m:=⟨keys_put o.nd,keys_in o.bd h⟩
theorem Ok.nil {m:Int}:Ok [] m:=⟨by simp [keys],fun x h=>by simp [keys] at h⟩
theorem step_in {m x w:Int} {d b:Nat} (hx : -m≤x∧x≤m) (hw : -9≤w∧w≤9) (hb:b≤16) (hd:d<b) : -(m+135)≤x+(d:Int)*w∧x+(d:Int)*w≤m+135:=by
  have d0:(0:Int)≤d:=by lia
  have d15:(d:Int)≤15:=by lia
  have a1:(d:Int)*w≤d*9:=Int.mul_le_mul_of_nonneg_left hw.2 d0
  have a2:(d:Int)*(-9)≤d*w:=Int.mul_le_mul_of_nonneg_left hw.1 d0
  lia
theorem figs_ok {f:List (Int×Int)} {m w:Int} {p:Int×Int} {b:Nat} (hp : -m≤p.1∧p.1≤m) (hw : -9≤w∧w≤9) (hb:b≤16) (o:Ok f (m+135)):∀ n,n≤b→Ok (figs p w n f) (m+135)
  | 0,_=>o
  | n+1,h=>by
    rw [figs_succ]
    exact (figs_ok hp hw hb o n (by lia)).put (step_in hp hw hb (by lia))
theorem oneMore_ok {f:List (Int×Int)} {m w:Int} {b:Nat} (o:Ok f m) (hw : -9≤w∧w≤9) (hb:b≤16):∀ i,Ok (oneMore (f.take i) b w) (m+135)
  | 0=>Ok.nil
  | i+1=>by
    cases h:f[i]? with
    | none =>
      rw [List.take_add_one,h]
      simpa using oneMore_ok o hw hb i
    | some p =>
      rw [oneMore_take h]
      exact figs_ok (o.bd p.1 (List.mem_map.mpr ⟨p,List.mem_of_getElem? h,rfl⟩)) hw hb (oneMore_ok o hw hb i) b (Nat.le_refl _)
theorem oneMore_ok' {f:List (Int×Int)} {m w:Int} {b:Nat} (o:Ok f m) (hw : -9≤w∧w≤9) (hb:b≤16):Ok (oneMore f b w) (m+135):=by
  have:=oneMore_ok o hw hb f.length
  rwa [List.take_length] at this
theorem ways_ok {b:Nat} {ws:List Int} (hw:∀ w∈ws,-9≤w∧w≤9) (hb:b≤16):∀ i:Nat,Ok (waysW b (ws.take i)) (135*i)
  | 0 => ⟨by simp [waysW, keys], fun x h => by have : x = 0 := by simpa [waysW, keys] using h
                                               lia⟩
  | i+1=>by
    cases h:ws[i]? with
    | none =>
      rw [List.take_add_one,h]
      have o:=ways_ok hw hb i
      simp only [Option.toList_none,List.append_nil]
      exact ⟨o.nd,fun x hx=>by have:=o.bd x hx;lia⟩
    | some w =>
      rw [waysW_take h]
      have o:=oneMore_ok' (ways_ok hw hb i) (hw w (List.mem_of_getElem? h)) hb
      have e:(135*((i+1:Nat):Int))=135*(i:Int)+135:=by lia
      rw [e]
      exact o
theorem ways_ok' {b:Nat} {ws:List Int} (hw:∀ w∈ws,-9≤w∧w≤9) (hb:b≤16):Ok (waysW b ws) (135*ws.length):=by
  have:=ways_ok hw hb ws.length
  rwa [List.take_length] at this
theorem sub_len {α:Type} [DecidableEq α]:∀ {l m:List α},l.Nodup→(∀ x∈l,x∈m)→l.length≤m.length
  | [],_,_,_=>Nat.zero_le _
  | x::l,m,nd,h=>by
    have hx:=h x (by simp)
    have hn:=(List.nodup_cons.mp nd).1
    have:=sub_len (l:=l) (m:=m.erase x) (List.nodup_cons.mp nd).2 fun y hy=>(List.mem_erase_of_ne (show y≠x from fun e=>hn (by rw [← e];exact hy))).mpr (h y (List.mem_cons_of_mem _ hy))
    rw [List.length_erase_of_mem hx] at this
    have hp:0<m.length:=List.length_pos_of_mem hx
    simp only [List.length_cons]
    lia
theorem Ok.len {f:List (Int×Int)} {m:Nat} (o:Ok f m):f.length≤2*m+1:=by
  have h:=sub_len (l:=keys f) (m:=(List.range (2*m+1)).map fun (i:Nat)=>(i:Int) - m) o.nd fun x hx=>by
    have:=o.bd x hx
    refine List.mem_map.mpr ⟨(x+m).toNat,List.mem_range.mpr (by lia),by lia⟩
  simpa [keys] using h
theorem look_mem:∀ {g:List (Int×Int)} {p:Int×Int},(keys g).Nodup→p∈g→look g p.1=some p.2
  | [],_,_,h=>by simp at h
  | q::g,p,nd,h=>by
    have hn:q.1∉keys g:=(List.nodup_cons.mp nd).1
    have nd':=(List.nodup_cons.mp nd).2
    rcases List.mem_cons.mp h with rfl | h
    · simp [look,List.find?_cons]
    · have hne:¬ q.1=p.1:=fun e=>hn (by rw [e];exact List.mem_map.mpr ⟨p,h,rfl⟩)
      have:=look_mem nd' h
      simpa [look,List.find?_cons,hne] using this
theorem pairs_perm {f:List (Int×Int)} (nd:(keys f).Nodup) {ns:List Int} (h:ns.Perm (keys f)):(ns.map fun n=>(n,(look f n).getD 0)).Perm f:=by
  have h1:=h.map fun n=>(n,(look f n).getD 0)
  have e:(keys f).map (fun n=>(n,(look f n).getD 0))=f:=by
    rw [keys,List.map_map]
    conv=>rhs;rw [← List.map_id f]
    apply List.map_congr_left
    intro p hp
    show (p.1,(look f p.1).getD 0)=p
    rw [look_mem nd hp]
    rfl
  rw [e] at h1
  exact h1
theorem put_new {f:List (Int×Int)} {k v:Int} (h:k∉keys f):put f k v=f++[(k,v)]:=by
  unfold put
  rw [if_neg]
  intro z
  obtain ⟨p,hp,e⟩:=List.any_eq_true.mp z
  exact h (List.mem_map.mpr ⟨p,hp,by simpa using e⟩)
noncomputable def mergeI (f more:List (Int×Int)):List (Int×Int):=more.foldl (fun acc p=>put acc p.1 p.2) f
theorem merge_new:∀ (more f:List (Int×Int)),(keys (f++more)).Nodup→mergeI f more=f++more
  | [],f,_=>by simp [mergeI]
  | p::r,f,nd=>by
    have hp:p.1∉keys f:=by
      rw [keys,List.map_append] at nd
      have:=(List.nodup_append.mp nd).2.2
      exact fun z=>this p.1 z p.1 (by simp) rfl
    show mergeI (put f p.1 p.2) r=_
    rw [put_new hp,merge_new r (f++[(p.1,p.2)]) (by simpa using nd)]
    simp
end Me
namespace L2
open PySem PySem.Spec PyProof.Rows
theorem Paired.at {α β:Type} {R:α→β→Prop} {as:List α} {bs:List β} {i:Nat} {a:α} (h:Paired R as bs) (e:as[i]?=some a):∃ b,bs[i]?=some b∧R a b:=by
  induction h generalizing i with
  | nil=>simp at e
  | cons r _ ih =>
    cases i with
    | zero=>simp at e;subst e;exact ⟨_,rfl,r⟩
    | succ i =>
      obtain ⟨b,h1,h2⟩:=ih (i:=i) (by simpa using e)
      exact ⟨b,by simpa using h1,h2⟩
noncomputable abbrev PairsAt (H:Hp) (ts:List Addr) (kvs:List (Key×V)):Prop:=Paired (fun (t:Addr) (p:Key×V)=>H t=some (.tup [kV p.1,p.2])) ts kvs
theorem pairs_of {P:Program} {w:World} {H:Hp} {h:Heap} (ok:HOk P w H h):∀ {ts:List Addr} {kvs:List (Key×V)} {its:List Value},PairsAt H ts kvs→Vals (ts.map V.ref) its→
    ∃ rs:List (Key×Value),KV kvs rs∧Paired (fun (u:Value) (r:Key×Value)=>∃ t o c key,u=.ref t∧h.get? t=some o∧o.cls=.type "tuple"∧o.data=.seq #[key,r.2] c∧(mixKind P w).is r.1 key=true) its rs
  | [],_,_,.nil,r=>by cases r;exact ⟨[],.nil,.nil⟩
  | t::ts,p::kvs,its,.cons e hp,r=>by
    cases r with
    | cons r0 rr =>
      cases r0
      obtain ⟨rs,a,b⟩:=pairs_of ok hp rr
      obtain ⟨_,its2,rv,tu⟩:=ok t _ e
      obtain ⟨u1,u2,rfl,r1,r2⟩:=rv.two
      obtain ⟨o,c,ho,hc,hd⟩:∃ o c,h.get? t=some o∧o.cls=.type "tuple"∧o.data=.seq #[u1,u2] c:=by
        obtain ⟨o,ho,hc,c,hd⟩:=tu
        exact ⟨o,c,ho,hc,hd⟩
      exact ⟨(p.1,u2)::rs,.cons ⟨rfl,r2⟩ a,.cons ⟨t,o,c,u1,rfl,ho,hc,hd,kV_is r1⟩ b⟩
section
variable {X:Cx} {o:Expr} {td:TE}
theorem call_dictP (hc:X.calm=true):CallR X (.type "dict") (fun xs H Q=>∃ (l:Addr) (ts:List Addr) (kvs:List (Key×V)),xs=[.ref l]∧H l=some (.lst (ts.map V.ref))∧PairsAt H ts kvs∧
    ∀ p,H p=none→Q (.ref p) (upd H p (.dK (mergeK [] kvs)))):=by
  intro pins s σ H xs us Q I r h
  obtain ⟨l,ts,kvs,rfl,e,hp,q⟩:=h
  obtain ⟨u,rfl,ru⟩:=vals1 r
  cases ru
  obtain ⟨z,its,n,rv,e1⟩:=I.hok l _ e
  obtain ⟨rs,hk,hr⟩:=pairs_of I.hok hp rv
  have hlen:rs.length=its.length:=hr.length.symm
  have hz:its.length≤sizeLine:=by rw [← rv.length];exact z
  refine call_dict_pairs (knd:=mixKind X.prog X.w) (I.ok.hd hc) e1 (by rw [List.size_toArray];exact hz) rs (by rw [List.size_toArray];exact hlen) (fun i v hv=>?_) fun h' tk dd k=>?_
  · obtain ⟨b,hb,t,o,c,key,x1,x2,x3,x4,x5⟩:=Paired.at (i:=i) (a:=v) hr (by simpa using hv)
    exact ⟨b.1,b.2,hb,t,o,c,key,x1,x2,x3,x4,x5⟩
  · have hm:=length_mergeK kvs []
    have hkl:=hk.length
    refine ⟨.ref _,_,I.laid (a:=s.heap.objs.size) (o:=.dK (mergeK [] kvs)) (t':=tk) k (Nat.le_refl _) (dk_new ?_ (beq_eq_false_iff_ne.mpr (Ne.symm (Nat.ne_of_lt I.big))) (KV.merge hk .nil) dd),rfl,q _ (I.hok.fresh (Nat.le_refl _))⟩
    simp only [List.length_nil] at hm
    lia
end
noncomputable def intsD (f:List (Int×Int)):List (Key×V):=f.map fun p=>(Sum.inl p.1,V.int p.2)
theorem valV_ints (f:List (Int×Int)) (k:Int):valV (intsD f) (Sum.inl k)=(Me.look f k).map V.int:=by
  induction f with
  | nil=>rfl
  | cons p r ih =>
    by_cases e:p.1=k
    · have h1:valV (intsD (p::r)) (Sum.inl k)=some (V.int p.2):=valV_pos (by show Sum.inl p.1=Sum.inl k;rw [e])
      rw [h1]
      simp [Me.look,List.find?_cons,e]
    · have h1:valV (intsD (p::r)) (Sum.inl k)=valV (intsD r) (Sum.inl k):=valV_neg (by intro z;exact e (Sum.inl.inj z))
      rw [h1,ih]
      simp [Me.look,List.find?_cons,e]
section
variable {X:Cx}
end
theorem put_ints (f:List (Int×Int)) (k v:Int):putK (intsD f) (Sum.inl k) (V.int v)=intsD (Me.put f k v):=by
  have e:((intsD f).any fun kv=>decide (kv.1=Sum.inl k))=f.any fun p=>decide (p.1=k):=by
    rw [intsD,List.any_map]
    congr 1
    funext p
    show decide (Sum.inl p.1=(Sum.inl k:Key))=decide (p.1=k)
    by_cases z:p.1=k
    · simp [z]
    · have z':¬ (Sum.inl p.1:Key)=Sum.inl k:=fun q=>z (Sum.inl.inj q)
      simp [z,z']
  unfold putK Me.put
  rw [e]
  split
  · rw [intsD,List.map_map,intsD,List.map_map]
    apply List.map_congr_left
    intro p _
    show (if (Sum.inl p.1:Key)=Sum.inl k then (Sum.inl p.1,V.int v) else (Sum.inl p.1,V.int p.2))=(Sum.inl (if p.1=k then (p.1,v) else p).1,V.int (if p.1=k then (p.1,v) else p).2)
    by_cases z:p.1=k
    · rw [if_pos (by rw [z]),if_pos z]
    · rw [if_neg (fun q=>z (Sum.inl.inj q)),if_neg z]
  · simp [intsD]
theorem merge_ints:∀ (more f:List (Int×Int)),mergeK (intsD f) (intsD more)=intsD (Me.mergeI f more)
  | [],f=>rfl
  | p::r,f=>by
    show mergeK (putK (intsD f) (Sum.inl p.1) (V.int p.2)) (intsD r)=_
    rw [put_ints,merge_ints r]
    rfl
end L2
namespace L2
open PySem PySem.Spec PyProof.Rows
section
variable {X:Cx}
theorem call_sumA (hc:X.calm=true):CallR X (.builtin "sum") (fun xs H Q=>∃ (p:Addr) (ns:List Int),xs=[.ref p]∧SqL X.K H p (ns.map V.int)∧Q (.int ns.sum) H):=by
  intro pins s σ H xs us Q I r h
  obtain ⟨p,ns,rfl,hq,q⟩:=h
  obtain ⟨u,rfl,rx⟩:=vals1 r
  cases rx
  obtain ⟨its,rv,pl,hz⟩:=I.list hq
  have hl:=pl.isList
  have hlt:p<s.heap.objs.size:=by obtain ⟨_,e,_⟩:=hl;exact Heap.lt_size e
  have hn:its.toArray.size=ns.length:=by rw [List.size_toArray,← rv.length,List.length_map]
  refine call_sum_walkG (wpAny_pyIter_list hl ?_)
  refine ⟨_,_,_,_,_,_,fun i=>(ns[i]?).getD 0,rfl,Walks.list (A:=X.A.in1) (I.ok.hd hc) s.heap.objs.size p (Nat.ne_of_lt hlt) its.toArray,⟨⟨_,Heap.get?_push_size _ rfl,rfl,rfl⟩,hl.push _⟩,fun b hb'=>?_,fun i v hP=>?_,fun h' tk t' hk=>?_⟩
  · show b<(s.heap.push _).objs.size
    rw [Heap.size_push]
    rcases List.mem_cons.mp hb' with rfl | hb'
    · exact Nat.lt_succ_self _
    · have e:b=p:=by simpa using hb'
      rw [e];exact Nat.lt_succ_of_lt hlt
  · have hv:its[i]?=some v:=by simpa using hP
    cases eb:ns[i]? with
    | none =>
      have:=rv.none_of (i:=i) (by rw [List.getElem?_map,eb];rfl)
      rw [this] at hv;cases hv
    | some b =>
      obtain ⟨u,hu,ru⟩:=rv.get (i:=i) (x:=.int b) (by rw [List.getElem?_map,eb];rfl)
      rw [hu] at hv;cases hv
      obtain ⟨t,rfl⟩:=ru
      exact ⟨t,by simp [eb]⟩
  · rw [hn,pre_take ns ns.length (Nat.le_refl _),List.take_length]
    exact ⟨.int _,H,(show Inv X pins σ H {s with heap:=h',toks:=tk} from seen I hk),⟨_,rfl⟩,q⟩
noncomputable def tSVals (td:TE):TE:=fun σ H Q=>td σ H fun x H1=>∃ a kvs,∃ ns:List Int,x=.ref a∧H1 a=some (.dK kvs)∧kvs.map (·.2)=ns.map V.int∧Q (.int ns.sum) H1
theorem pe_svals {o:Expr} {td:TE} {p1 q1 apos cpos:Pos} (hc:X.calm=true) (hm1:X.mg "sum"=none) (hg1:Gl X "sum") (ho:PE X o td) (hbase:attributeBase o "values" X.env (eval o X.env)=eval o X.env:=by rfl) (hline:(apos.endLine==cpos.line)=true:=by rfl) :
    PE X (.Call (.Name "sum" p1) [.Call (.Attribute o "values" apos) [] [] cpos] [] q1) (tSVals td):=by
  intro pins s σ H Q I h
  refine wpAny_Call_Name_kw (ld_blt I hg1 hm1 boot_sum ?_)
  refine PyProof.Rows.callWith_builtin1 ?_ rfl rfl
  show wpAny _ _ (spliced ((false,eval (.Call (.Attribute o "values" apos) [] [] cpos) X.env)::backTo q1 (starEach [] X.env))) _ _ s
  refine Calls.spliced_cons ?_
  refine wpAny_Call_method0_late hbase hline (thn (ho pins s σ H _ I h) fun v s1 ⟨x,H1,I1,r1,a,kvs,ns,ex,he,hns,q⟩=>?_)
  subst ex
  obtain rfl:v=Value.ref a:=r1
  obtain ⟨t1,t2,_⟩:=isD_at I1 (.inl ⟨kvs,.inl he⟩)
  obtain ⟨z,hd,vs,rel,dd⟩:=dk_of I1.hok he
  refine ⟨"dict","dict.values",PySem.F.plainAttrs_dict,PySem.F.slot_dict_values,PySem.F.type_dict_values,t1,t2,Calls.callWith_builtin rfl (PySem.evalArgs_none ?_)⟩
  refine call_meetsIn PySem.F.slot_dict_values dd.typeIs PySem.F.entry_dict_values (PySem.F.args_dict_values_1 _) (meets_dict_values (mixKind X.prog X.w) a hd) ⟨⟨_,dd⟩,?_⟩
  refine Calls.spliced_nil ?_
  obtain ⟨ob,es,ep,hob,rest⟩:=dd
  have hob2:=Heap.get?_push_of_some {cls:=.type "dict_values",data:=.fields #[.ref a]} hob
  have hl:=rel.length
  have hln:kvs.length=ns.length:=by simpa using congrArg List.length hns
  have KS:=PySem.W.kdl_values (prog:=X.prog) (w:=X.w) (r:=s1.heap.objs.size) (d:=a) (ep:=ep) (kvs:=vs) (knd:=mixKind X.prog X.w)
  have hok:(s1.heap.push {cls:=.type "dict_values",data:=.fields #[.ref a]}).IsValuesView s1.heap.objs.size a∧(s1.heap.push {cls:=.type "dict_values",data:=.fields #[.ref a]}).DictAt (mixKind X.prog X.w) a vs ep:=⟨⟨_,Heap.get?_push_size _ rfl,rfl,rfl⟩,⟨ob,es,hob2,rest⟩⟩
  refine call_sum_walkG ?_
  obtain ⟨oI,St,hit,W,st⟩:=KS.iter X.A.in1 {s1 with heap:=s1.heap.push {cls:=.type "dict_values",data:=.fields #[.ref a]}} (I1.ok.hd hc) hok
  refine hit _ _ ⟨_,_,_,_,_,_,fun i=>(ns[i]?).getD 0,rfl,W,st,fun b hb=>?_,fun i v hv=>?_,fun h' tk t' hk=>?_⟩
  · show b<(Heap.push _ oI).objs.size
    rw [Heap.size_push]
    rcases List.mem_cons.mp hb with e | hb
    · rw [e];exact Nat.lt_succ_self _
    · rw [List.mem_singleton.mp hb];exact Nat.lt_succ_of_lt (KS.there _ hok).2
  · obtain ⟨k',e1⟩:=hv
    have hi:i<kvs.length:=by rw [hl];exact (List.getElem?_eq_some_iff.mp e1).1
    obtain ⟨u',hu',ru⟩:=KV.at rel (i:=i) (p:=kvs[i]) (by simp [hi])
    rw [e1] at hu'
    have eu:v=u':=congrArg Prod.snd (Option.some.inj hu')
    have e2:(kvs.map (·.2))[i]?=(ns.map V.int)[i]?:=by rw [hns]
    have e3:(kvs.map (·.2))[i]?=some (kvs[i]).2:=by simp [hi]
    have e4:(ns.map V.int)[i]?=some (V.int ns[i]):=by simp [show i<ns.length by omega]
    rw [e3,e4] at e2
    have e5:=Option.some.inj e2
    rw [e5] at ru
    obtain ⟨t,rfl⟩:=ru
    refine ⟨t,?_⟩
    rw [eu]
    have e6:ns[i]?=some ns[i]:=List.getElem?_eq_getElem (show i<ns.length by omega)
    show Value.int ns[i] t=Value.int ((ns[i]?).getD 0) t
    rw [e6]
    rfl
  · rw [← hl,hln,pre_take ns ns.length (Nat.le_refl _),List.take_length]
    have hk2:∀ b o,s1.heap.get? b=some o→h'.get? b=some o:=fun b o e=>hk b o (fun hI=>absurd (Heap.lt_size e) (by
      rw [List.mem_singleton.mp hI]
      show ¬ (s1.heap.push _).objs.size<_
      rw [Heap.size_push];omega)) (Heap.get?_push_of_some _ (Heap.get?_push_of_some _ e))
    exact ⟨.int _,H1,I1.kept (t':=tk) (h':=h') hk2,⟨_,rfl⟩,q⟩
end
end L2
namespace Hv
open PySem L2
section
variable {P:Program} {w:World} {K:PySem.W.Frag} {mg:Str→Option Value} {base:Heap}
theorem scWhole:FnScope ["thing"] ["thing"] (defScope sWhole):=⟨rfl,rfl,rfl,by decide +kernel,rfl,by decide +kernel,by decide +kernel⟩
theorem ok_whole {f:Addr} {fd:FuncData} (F:Fun K "is_whole" "is_whole" sWhole f fd) (T:Txt mg):FnOk P w K mg base CX0 1 f fd ["thing"] spWhole:=by
  refine F.ok scWhole (fun vs H Q E h=>?_) (fun cdv A outer s H vs Q E hr h=>?_)
  · obtain ⟨v,rfl,_⟩:=h;rfl
  · obtain ⟨v,rfl,ty,k⟩:=h
    refine ⟨_,pss_one (ps_ret (pe_and (pe_callB call_isi (by rfl) T.isi boot_isinstance (pa_cons (pv 0) (pa_cons (pe_ty T.int boot_int) pa_nil)))
      (pe_one (pe_not (pe_callB call_isi (by rfl) T.isi boot_isinstance (pa_cons (pv 0) (pa_cons (pe_ty T.bool boot_bool) pa_nil))))))),?_⟩
    cases ty with
    | non=>exact ⟨_,rfl,_,_,_,_,rfl,.non,kit_ni,false,rfl,iteF k⟩
    | bl b=>exact ⟨_,rfl,_,_,_,_,rfl,.bl b,kit_bi,true,rfl,iteT ⟨_,rfl,_,_,_,_,rfl,.bl b,kit_bb,true,rfl,k⟩⟩
    | int i=>exact ⟨_,rfl,_,_,_,_,rfl,.int i,kit_ii,true,rfl,iteT ⟨_,rfl,_,_,_,_,rfl,.int i,kit_ib,false,rfl,k⟩⟩
    | str x=>exact ⟨_,rfl,_,_,_,_,rfl,.str x,kit_si,false,rfl,iteF k⟩
    | lst e=>exact ⟨_,rfl,_,_,_,_,rfl,.lst e,kit_li,false,rfl,iteF k⟩
    | tup e=>exact ⟨_,rfl,_,_,_,_,rfl,.tup e,kit_ti,false,rfl,iteF k⟩
    | dK e=>exact ⟨_,rfl,_,_,_,_,rfl,.dK e,kit_di,false,rfl,iteF k⟩
theorem scBetw:FnScope ["thing","least","greatest"] ["thing","least","greatest"] (defScope sBetw):=⟨rfl,rfl,rfl,by decide +kernel,rfl,by decide +kernel,by decide +kernel⟩
theorem ok_betw {f:Addr} {fd:FuncData} (F:Fun K "is_between" "is_between" sBetw f fd) (D1:Def P w K mg base 1 "is_whole" ["thing"] spWhole):FnOk P w K mg base CX0 2 f fd ["thing","least","greatest"] spBetw:=by
  refine F.ok scBetw (fun vs H Q E h=>?_) (fun cdv A outer s H vs Q E hr h=>?_)
  · obtain ⟨v,lo,hi,rfl,_⟩:=h;rfl
  · obtain ⟨v,lo,hi,rfl,ty,k⟩:=h
    refine ⟨_,pss_one (ps_ret (pe_and (pe_fn D1 hr (by rfl) (pa_cons (pv 0) pa_nil)) (pe_one (pe_chain op_le op_le (pv 1) (pv 0) (pv 2))))),?_⟩
    refine ⟨_,rfl,v,rfl,ty,_,rfl,?_⟩
    cases v with
    | int i =>
      refine iteT ?_
      refine ⟨_,rfl,_,rfl,_,_,rfl,rfl,_,rfl,?_⟩
      by_cases h1:lo≤i
      · rw [decide_eq_true h1]
        refine iteT ⟨_,rfl,_,_,rfl,rfl,?_⟩
        have e:betw (.int i) lo hi=decide (i≤hi):=by simp [betw,h1]
        rw [e] at k
        exact k
      · rw [decide_eq_false h1]
        refine iteF ?_
        have e:betw (.int i) lo hi=false:=by simp [betw,h1]
        rw [e] at k
        exact k
    | _=>exact iteF k
theorem scLBetw:FnScope ["thing","least","greatest"] ["thing","least","greatest"] (defScope sLBetw):=⟨rfl,rfl,rfl,by decide +kernel,rfl,by decide +kernel,by decide +kernel⟩
theorem ok_lbetw {f:Addr} {fd:FuncData} (F:Fun K "is_list_between" "is_list_between" sLBetw f fd) (T:Txt mg) (D2:Def P w K mg base 2 "is_between" ["thing","least","greatest"] spBetw):FnOk P w K mg base CX0 3 f fd ["thing","least","greatest"] spLBetw:=by
  refine F.ok scLBetw (fun vs H Q E h=>?_) (fun cdv A outer s H vs Q E hr h=>?_)
  · obtain ⟨a,xs,lo,hi,rfl,_⟩:=h;rfl
  · obtain ⟨a,xs,lo,hi,rfl,ha,hlen,hth,k⟩:=h
    refine ⟨_,pss_one (ps_ret (pe_and (pe_callB call_isi (by rfl) T.isi boot_isinstance (pa_cons (pv 0) (pa_cons (pe_ty T.list boot_list) pa_nil)))
      (pe_one (pe_callB (call_all rfl) (by rfl) T.all boot_all (pa_cons
        (pe_cmp1 (defScope sLBetw) ["thing","least","greatest"] ["least","greatest"] [1,2] rfl (pi_list (pv 0)) (fun cl C s H fp=>pf_nil) (fun cl C s H fp=>pe_fn D2 hr (by rfl) (pa_cons (pv 0) (pa_cons (pv 1) (pa_cons (pv 2) pa_nil)))) (by decide +kernel)) pa_nil))))),?_⟩
    refine ⟨_,rfl,_,_,_,_,rfl,.lst ha,kit_ll,true,rfl,iteT ?_⟩
    refine ⟨_,rfl,a,rfl,⟨_,SqL.of ha⟩,comp_list (K:=K) (a:=a) (xs:=xs) (fun i ys H2=>ys=((xs.take i).map fun x=>V.bl (betw x lo hi))∧Same H H2) ⟨by simp,Same.refl _⟩ (fun i ys H2 _ p=>SqL.of (p.2 _ _ ha)) ?_ ?_⟩
    · rintro i x ys H2 hx ⟨rfl,s2⟩
      have hil:i<xs.length:=(List.getElem?_eq_some_iff.mp hx).1
      refine ⟨szl (by rw [List.length_map,List.length_take];lia),?_⟩
      refine ⟨_,rfl,_,rfl,_,rfl,x,lo,hi,rfl,(hth x (List.mem_of_getElem? hx)).keep s2,?_,s2⟩
      rw [List.take_add_one,hx]
      simp
    · rintro ys H2 ⟨rfl,s2⟩ D hD
      refine ⟨D,xs.map fun x=>betw x lo hi,rfl,SqL.of ?_,?_⟩
      · rw [upd_same,List.take_length,List.map_map]
        rfl
      · have e:(xs.map fun x=>betw x lo hi).all id=xs.all fun x=>betw x lo hi:=by rw [List.all_map];rfl
        rw [e]
        exact k _ (same_upd2 s2 (s2.free hD))
theorem scIsFrame:FnScope ["thing"] ["thing"] (defScope sIsFrame):=⟨rfl,rfl,rfl,by decide +kernel,rfl,by decide +kernel,by decide +kernel⟩
theorem ok_isframe {f:Addr} {fd:FuncData} (F:Fun K "is_frame" "is_frame" sIsFrame f fd) (T:Txt mg) (D2:Def P w K mg base 2 "is_between" ["thing","least","greatest"] spBetw) (D3:Def P w K mg base 3 "is_list_between" ["thing","least","greatest"] spLBetw) :
    FnOk P w K mg base CX0 4 f fd ["thing"] spIsFrame:=by
  refine F.ok scIsFrame (fun vs H Q E h=>?_) (fun cdv A outer s H vs Q E hr h=>?_)
  · obtain ⟨g,a,c,b,ps,ws,rfl,_⟩:=h;rfl
  · obtain ⟨g,a,c,b,ps,ws,rfl,G,k⟩:=h
    have ok:=G.ok
    have hsum:=ok.sum
    refine ⟨_,pss_cons (ps_if (PW.pt (pw_or (pt_not (pt_val (pe_callB call_isi (by rfl) T.isi boot_isinstance (pa_cons (pv 0) (pa_cons (pe_ty T.tuple boot_tuple) pa_nil))))) (pw_or1 (pt_cmpR op_ne (lenS T.len (by rfl) (pv 0)) pe_int (nomark _))))) (pss_one (ps_ret pe_bl)) pss_nil)
      (pss_cons (ps_if (pt_not (pt_val (pe_fn D2 (hr.mono (by decide)) (by rfl) (pa_cons (ixt (pv 0) pe_int) (pa_cons pe_int (pa_cons pe_int pa_nil)))))) (pss_one (ps_ret pe_bl)) pss_nil)
      (pss_cons (ps_if (PW.pt (pw_or (pt_not (pt_val (pe_fn D3 hr (by rfl) (pa_cons (ixt (pv 0) pe_int) (pa_cons pe_int (pa_cons pe_int pa_nil)))))) (pw_or1 (pt_not (pt_chain op_le op_le pe_int (lenS T.len (by rfl) (ixt (pv 0) pe_int)) pe_int))))) (pss_one (ps_ret pe_bl)) pss_nil)
      (pss_one (ps_ret (pe_and (pe_fn D3 hr (by rfl) (pa_cons (ixt (pv 0) pe_int) (pa_cons (pe_un un_neg pe_int) (pa_cons pe_int pa_nil))))
        (pe_one (pe_cmpR op_eq (lenS T.len (by rfl) (ixt (pv 0) pe_int)) (pe_callB (call_sumA rfl) (by rfl) T.sum boot_sum (pa_cons (ixt (pv 0) pe_int) pa_nil)) (nomark _)))))))),?_⟩
    -- a tuple of three
    refine ⟨_,rfl,_,_,_,_,rfl,.tup G.tp,kit_tt,true,rfl,iteF ?_⟩
    refine ⟨_,rfl,g,_,rfl,.inr (SqT.of G.tp),rfl,_,rfl,iteNS rfl ?_⟩
    -- the base
    refine ⟨_,rfl,_,_,_,_,rfl,rfl,SqT.of G.tp,rfl,⟨.int b,2,16,rfl,.int _,_,rfl,?_⟩⟩
    have e1:betw (.int b) 2 16=true:=by
      have h1:=ok.b2
      have h2:=ok.b16
      simp only [betw,Bool.and_eq_true,decide_eq_true_eq]
      lia
    rw [e1]
    refine iteF ?_
    -- the parts
    refine ⟨_,rfl,_,_,_,_,rfl,rfl,SqT.of G.tp,rfl,⟨a,_,1,6,rfl,G.hp,(by simp [natV];have:=ok.l4;lia),things_nats ps,fun H1 s1=>⟨_,rfl,?_⟩⟩⟩
    have e2:((natV ps).all fun x=>betw x 1 6)=true:=betw_nats (lo:=1) (hi:=6) ok.pr
    rw [e2]
    refine iteF ?_
    refine ⟨_,rfl,_,_,_,_,rfl,rfl,SqT.of (s1 _ _ G.tp),rfl,⟨a,_,rfl,.inl (SqL.of (s1 _ _ G.hp)),_,_,rfl,rfl,_,rfl,?_⟩⟩
    have e3:((natV ps).length:Int)=ps.length:=by simp [natV]
    have l2:=ok.l2
    have l4:=ok.l4
    refine ite2 (fun _=>?_) (fun h=>absurd (decide_eq_true (by lia)) h)
    refine ⟨_,_,rfl,rfl,_,rfl,?_⟩
    refine iteNS (by lia) ?_
    -- the weights
    refine ⟨_,rfl,_,_,_,_,rfl,rfl,SqT.of (s1 _ _ G.tp),rfl,⟨_,rfl,⟨c,_,-9,9,rfl,s1 _ _ G.hw,(by rw [List.length_map,ok.wl];lia),things_ints ws,fun H2 s2=>⟨_,rfl,?_⟩⟩⟩⟩
    have e4:((ws.map V.int).all fun x=>betw x (-9) 9)=true:=betw_ints ok.wr
    rw [e4]
    refine iteT ?_
    have G2:=(G.keep s1).keep s2
    refine ⟨_,rfl,_,_,_,_,rfl,rfl,SqT.of G2.tp,rfl,⟨c,_,rfl,.inl (SqL.of G2.hw),?_⟩⟩
    refine ⟨_,rfl,_,_,_,_,rfl,rfl,SqT.of G2.tp,rfl,⟨a,ps.map fun (p:Nat)=>(p:Int),rfl,SqL.of (by rw [← natV_eq];exact G2.hp),rfl,?_⟩⟩
    · have e5:decide (V.int ((ws.map V.int).length:Int)=V.int (ps.map fun (p:Nat)=>(p:Int)).sum)=true:=by
        rw [decide_eq_true_eq,Ma.sum_cast,List.length_map,ok.wl]
      rw [e5]
      exact k H2 (s1.trans s2)
theorem scNeedFrame:FnScope ["thing"] ["thing"] (defScope sNeedFrame):=⟨rfl,rfl,rfl,by decide +kernel,rfl,by decide +kernel,by decide +kernel⟩
theorem ok_needframe {f:Addr} {fd:FuncData} (F:Fun K "need_frame" "need_frame" sNeedFrame f fd) (D4:Def P w K mg base 4 "is_frame" ["thing"] spIsFrame):FnOk P w K mg base CX0 5 f fd ["thing"] spNeedFrame:=by
  refine F.ok scNeedFrame (fun vs H Q E h=>?_) (fun cdv A outer s H vs Q E hr h=>?_)
  · obtain ⟨g,a,c,b,ps,ws,rfl,_⟩:=h;rfl
  · obtain ⟨g,a,c,b,ps,ws,rfl,G,k⟩:=h
    refine ⟨_,pss_one (ps_if (pt_not (pt_val (pe_fn D4 hr (by rfl) (pa_cons (pv 0) pa_nil)))) pss_never pss_nil),?_⟩
    exact ⟨_,rfl,g,a,c,b,ps,ws,rfl,G,fun H1 s1=>⟨_,rfl,iteF (k H1 s1)⟩⟩
end
end Hv
namespace Hv
open PySem L2
noncomputable abbrev RowsAt (H:Hp) (qs:List Addr) (rows:List (List Int)):Prop:=Paired (fun q row=>H q=some (.lst (row.map V.int))) qs rows
theorem RowsAt.keepOn {H H':Hp} {qs:List Addr} {rows:List (List Int)} (s:∀ b∈qs,∀ row:List Int,H b=some (.lst (row.map V.int))→H' b=some (.lst (row.map V.int))) (h:RowsAt H qs rows):RowsAt H' qs rows:=by
  induction h with
  | nil=>exact .nil
  | cons h _ ih=>exact .cons (s _ (by simp) _ h) (ih fun b hb=>s b (List.mem_cons_of_mem _ hb))
theorem rows_get {F:Addr→List Int→Prop} {qs:List Addr} {rows:List (List Int)} {i:Nat} {q:Addr} (h:Paired F qs rows) (e:qs[i]?=some q):∃ row,rows[i]?=some row∧F q row:=Paired.at h e
noncomputable def spCut:Sp:=fun vs H Q _=>∃ f a c b ps ws,∃ (r:Addr) (xs:List Int),vs=[.ref f,.ref r]∧FrAt H f a c b ps ws∧H r=some (.lst (xs.map V.int))∧
  ∀ p qs H',Same H H'→H' p=some (.lst (qs.map V.ref))→RowsAt H' qs (Ma.cuts ps xs)→Q (.ref p) H'
theorem cut_mid {xs:List V} {i k:Nat}:cutV xs (some (i:Int)) (some ((i:Int)+(k:Int)))=(xs.drop i).take k:=by
  have e:(i:Int)+(k:Int)=((i+k:Nat):Int):=by lia
  unfold cutV
  rw [e,HT.sIx_nat,HT.sIx_nat]
  rcases Nat.le_total i xs.length with h | h
  · rw [Nat.min_eq_left h]
    rcases Nat.le_total (i+k) xs.length with h2 | h2
    · rw [Nat.min_eq_left h2,Nat.add_sub_cancel_left]
    · rw [Nat.min_eq_right h2,List.take_of_length_le (by rw [List.length_drop];lia),List.take_of_length_le (by rw [List.length_drop];lia)]
  · rw [Nat.min_eq_right h,List.drop_of_length_le (Nat.le_refl _),List.drop_of_length_le h]
    simp
section
variable {P:Program} {w:World} {K:PySem.W.Frag} {mg:Str→Option Value} {base:Heap}
theorem scCut:FnScope ["frame","row","pieces","start","length"] ["frame","row"] (defScope sCut):=⟨rfl,rfl,rfl,by decide +kernel,rfl,by decide +kernel,by decide +kernel⟩
theorem ok_cut {f:Addr} {fd:FuncData} (F:Fun K "cut_by_parts" "cut_by_parts" sCut f fd):FnOk P w K mg base CX0 1 f fd ["frame","row"] spCut:=by
  refine F.ok scCut (fun vs H Q E h=>?_) (fun cdv A outer s H vs Q E hr h=>?_)
  · obtain ⟨g,a,c,b,ps,ws,r,xs,rfl,_⟩:=h;rfl
  · obtain ⟨g,a,c,b,ps,ws,r,xs,rfl,G,hrow,k⟩:=h
    have nd:=scCut.nd
    have l4:=G.ok.l4
    refine ⟨_,pss_cons (ps_set (i:=2) nd rfl (Or.inl rfl) (pe_lst pa_nil))
      (pss_cons (ps_set (i:=3) nd rfl (Or.inl rfl) pe_int)
      (pss_cons (ps_for PassesOwn.never rfl (pi_list (ixt (pv 0) pe_int)) (pg_name (i:=4) nd rfl (Or.inl rfl))
        (pss_cons (ps_expr (pe_bm PySem.F.plainAttrs_list PySem.F.slot_list_append PySem.F.type_list_append mt_append (pv 2) (pa_cons (pe_slice sl_list (pv 1) (po_some (pv 3)) (po_some (pe_op op_add (pv 3) (pv 4)))) pa_nil)))
        (pss_one (ps_set (i:=3) nd rfl (Or.inl rfl) (pe_op op_add (pv 3) (pv 4))))))
      (pss_one (ps_ret (pv 2))))),?_⟩
    refine ⟨sz (by decide),fun p hp=>?_⟩
    have s1:Same H (upd H p (.lst [])):=same_upd hp
    have G1:=G.keep s1
    refine ⟨_,rfl,_,_,_,_,rfl,rfl,SqT.of G1.tp,rfl,a,rfl,⟨_,SqL.of G1.hp⟩,for_list (K:=K) (a:=a) (xs:=natV ps) (fun i σ H2=>∃ (qs:List Addr) (v4:Option V),σ=[some (.ref g),some (.ref r),some (.ref p),some (.int (((ps.take i).sum:Nat):Int)),v4]∧
      Same H H2∧H2 p=some (.lst (qs.map V.ref))∧qs.length=i∧RowsAt H2 qs ((Ma.cuts ps xs).take i)) ⟨[],none,rfl,s1,upd_same,rfl,.nil⟩ (fun i σ H2 _ h=>by obtain ⟨_,_,_,s2,_⟩:=h;exact SqL.of (s2 _ _ G.hp)) ?_ ?_⟩
    · rintro i x σ H2 hx ⟨qs,v4,rfl,s2,hp2,hl2,rows⟩
      have hi:i<ps.length:=by
        have:=(List.getElem?_eq_some_iff.mp hx).1
        simpa [natV] using this
      have e:ps[i]?=some ps[i]:=by simp [hi]
      have ex:x=V.int ((ps[i]:Nat):Int):=by
        have:(natV ps)[i]?=some (V.int ((ps[i]:Nat):Int)):=by simp [natV,hi]
        rw [this] at hx
        exact (Option.some.inj hx).symm
      subst ex
      have pr:p≠r:=Ne.symm (ne_of_none hrow hp)
      refine ⟨_,rfl,.inl ⟨rfl,_,SqL.of hp2⟩,_,rfl,_,rfl,_,rfl,_,rfl,_,rfl,_,_,rfl,rfl,_,rfl,r,_,rfl,SqL.of (s2 _ _ hrow),fun q hq=>?_⟩
      have pq:p≠q:=ne_of_none hp2 hq
      refine ⟨p,_,_,rfl,rfl,(by rw [upd_ne pq];exact hp2),szl (by rw [List.length_map];lia),?_⟩
      refine ⟨_,rfl,_,rfl,_,_,rfl,rfl,qs++[q],some (.int ((ps[i]:Nat):Int)),?_,same_upd2 (same_upd2 s2 (s2.free hq)) hp,?_,by simp [hl2],?_⟩
      · rw [List.take_add_one,e,List.sum_append]
        show [some (V.ref g),some (.ref r),some (.ref p),some (.int (((ps.take i).sum:Nat)+((ps[i]:Nat):Int))),_]=_
        simp
      · rw [upd_same];simp
      · rw [List.take_add_one,Ma.cuts_get ps xs i ps[i] e]
        refine Paired.snoc (RowsAt.keepOn (H:=H2) (fun bb hb row z=>?_) rows) ?_
        · have bp:bb≠p:=ne_of z hp2 (by
            intro e
            have e':row.map V.int=qs.map V.ref:=by injection e
            have m1:V.ref bb∈row.map V.int:=by rw [e'];exact List.mem_map.mpr ⟨bb,hb,rfl⟩
            obtain ⟨_,_,m2⟩:=List.mem_map.mp m1
            cases m2)
          rw [upd_ne bp,upd_ne (ne_of_none z hq)]
          exact z
        · rw [upd_ne pq.symm,upd_same,cut_mid,← List.map_drop,← List.map_take]
    · rintro σ H2 ⟨qs,v4,rfl,s2,hp2,hl2,rows⟩
      refine ⟨_,rfl,k p qs H2 s2 hp2 ?_⟩
      have e:(natV ps).length=(Ma.cuts ps xs).length:=by rw [Ma.cuts_len];simp [natV]
      rw [e,List.take_length] at rows
      exact rows
end
end Hv
namespace Hv
open PySem L2
section
variable {P:Program} {w:World} {K:PySem.W.Frag} {mg:Str→Option Value} {base:Heap}
end
end Hv
namespace Hv
open PySem L2
noncomputable abbrev sumsOf (b n:Nat) (ps:List Nat) (ws:List Int):List Int:=Ma.psums ps (Ma.wts b n ps.sum ws)
section
variable {P:Program} {w:World} {K:PySem.W.Frag} {mg:Str→Option Value} {base:Heap}
end
end Hv
namespace L2
open PySem PySem.Spec PyProof.Rows
section
variable {X:Cx} {e st:Expr} {te ts:TE} {pos p2:Pos} {tg:Expr}
end
end L2
namespace Hv
open PySem L2
theorem iteAny {c A B:Prop} [Decidable c] (h1:A) (h2:B):if c then A else B:=ite2 (fun _=>h1) fun _=>h2
theorem if_tail {c A:Prop} [Decidable c] {nx:St→Hp→Prop} {σ:St} {H:Hp} (Good:St→Hp→Prop) (h:∀ σ H,Good σ H→nx σ H) (hA:(∀ σ H,Good σ H→nx σ H)→A) (hB:Good σ H):if c then A else nx σ H:=iteAny (hA h) (h _ _ hB)
theorem cut_to {xs:List V} {k:Nat}:cutV xs none (some (k:Int))=xs.take k:=by
  unfold cutV
  rw [HT.sIx_none,HT.sIx_nat,List.drop_zero,Nat.sub_zero]
  rcases Nat.le_total k xs.length with h | h
  · rw [Nat.min_eq_left h]
  · rw [Nat.min_eq_right h,List.take_of_length_le (Nat.le_refl _),List.take_of_length_le h]
theorem at_ints {ns:List Int} {i:Int} {Pr:Int→Prop} (h0:0≤i) (h1:i<ns.length) (h:∀ n∈ns,Pr n):∃ n,atI (ns.map V.int) i=some (.int n)∧Pr n:=by
  obtain ⟨v,e,n,rfl,hn⟩:=at_all (xs:=ns.map V.int) (Pr:=fun v=>∃ n,v=.int n∧Pr n) h0 (by rw [List.length_map];exact h1) (fun x hx=>by
    obtain ⟨n,hn,rfl⟩:=List.mem_map.mp hx
    exact ⟨n,rfl,h n hn⟩)
  exact ⟨n,e,hn⟩
theorem rep_nat {n x:Nat}:(List.replicate n [V.int (x:Int)]).flatten=natV (List.replicate n x):=by
  induction n with
  | zero=>rfl
  | succ n ih=>rw [List.replicate_succ,List.flatten_cons,ih,List.replicate_succ];rfl
theorem nats_sum {ps:List Nat} (h:∀ p∈ps,1≤p∧p≤6):∀ n∈ps.map fun (p:Nat)=>(p:Int),-1000000000≤n∧n≤1000000000:=fun n hn=>by
  obtain ⟨p,hp,rfl⟩:=List.mem_map.mp hn
  have:=h p hp
  lia
theorem b01 (k:Bool):CMul j (if k=true then 1 else 0):=.inr (by cases k <;> decide)
noncomputable def Store (H:Hp) (s:Addr):Prop:=∃ g c k:Int,H s=some (.lst [.int g,.int c,.int k])
theorem Store.keep {H H':Hp} {s:Addr} (h:Store H s) (t:Same H H'):Store H' s:=let ⟨g,c,k,e⟩:=h;⟨g,c,k,t _ _ e⟩
theorem Store.off {H:Hp} {s l:Addr} (h:Store H s) (e:H l=none):l≠s:=fun z=>by
  obtain ⟨g,c,k,q⟩:=h
  rw [z,q] at e;cases e
theorem Store.off1 {H:Hp} {s l:Addr} (h:Store H s) (e:H l=none):l∉[s]:=fun z=>h.off e (by simpa using z)
theorem Store.upd {H:Hp} {s l:Addr} {o:HO} (h:Store H s) (n:l≠s):Store (L2.upd H l o) s:=let ⟨g,c,k,e⟩:=h;⟨g,c,k,by rw [upd_ne n.symm];exact e⟩
noncomputable def spCell (K:PySem.W.Frag):Sp:=fun vs H Q _=>∃ (a:Addr) (ns:List Int) (k:Nat),vs=[.ref a,.int k]∧SqL K H a (ns.map V.int)∧k≤1000∧∀ c:Int,Q (.int c) H
noncomputable def spStore:Sp:=fun vs H Q _=>∃ c:Int,vs=[.int c]∧∀ s H',H s=none→Same H H'→Store H' s→Q (.ref s) H'
noncomputable def spTake:Sp:=fun vs H Q _=>∃ (s:Addr) (m:Int),vs=[.ref s,.int m]∧Store H s∧0<m∧m<1073741824∧∀ (r:Int) (H':Hp),0≤r→r<m→Store H' s→Kp [s] H H'→Q (.int r) H'
noncomputable def spFrame:Sp:=fun vs H Q _=>∃ (s:Addr) (L:Int),vs=[.ref s,.int L]∧Store H s∧1≤L∧L≤6∧
  ∀ f a c b ps ws H',Store H' s→Kp [s] H H'→FrAt H' f a c b ps ws→H f=none→H a=none→H c=none→Q (.ref f) H'
section
variable {P:Program} {w:World} {K:PySem.W.Frag} {mg:Str→Option Value} {base:Heap}
theorem scCell:FnScope ["script","k"] ["script","k"] (defScope sCell):=⟨rfl,rfl,rfl,by decide +kernel,rfl,by decide +kernel,by decide +kernel⟩
theorem ok_cell {f:Addr} {fd:FuncData} (F:Fun K "_law_cell" "_law_cell" sCell f fd) (T:Txt mg):FnOk P w K mg base CX0 1 f fd ["script","k"] (spCell K):=by
  refine F.ok scCell (fun vs H Q E h=>?_) (fun cdv A outer s H vs Q E hr h=>?_)
  · obtain ⟨a,ns,j,rfl,_⟩:=h;rfl
  · obtain ⟨a,ns,j,rfl,hS,hj,k⟩:=h
    refine ⟨_,pss_cons (ps_if (pt_cmpR op_lt (pv 1) (lenS T.len (by rfl) (pv 0)) (nomark _)) (pss_one (ps_ret (ixl (pv 0) (pv 1)))) pss_nil)
      (pss_one (ps_ret (pe_op op_add (pe_op op_add (pe_op op_mul (pe_op op_mul pe_int (pv 1)) (pv 1)) (pe_op op_mul pe_int (pv 1))) pe_int))),?_⟩
    refine ⟨_,rfl,_,rfl,a,_,rfl,.inl hS,_,_,rfl,rfl,_,rfl,ite2 (fun h=>?_) (fun _=>?_)⟩
    · have h':j<ns.length:=by
        have:=of_decide_eq_true h
        rw [List.length_map] at this
        lia
      exact ⟨_,rfl,_,rfl,a,_,_,_,rfl,rfl,hS,atI_nat (v:=V.int ns[j]) (by simp [h']),k _⟩
    · exact ⟨_,rfl,_,_,rfl,rfl,.inl ⟨by decide,by decide⟩,_,rfl,_,_,rfl,rfl,.inr ⟨by lia,by lia⟩,_,rfl,_,_,rfl,rfl,.inl ⟨by decide,by decide⟩,_,_,rfl,rfl,_,_,rfl,rfl,k _⟩
theorem scStore:FnScope ["cell","great"] ["cell"] (defScope sStore):=⟨rfl,rfl,rfl,by decide +kernel,rfl,by decide +kernel,by decide +kernel⟩
theorem ok_store {f:Addr} {fd:FuncData} (F:Fun K "_law_store" "_law_store" sStore f fd):FnOk P w K mg base CX0 1 f fd ["cell"] spStore:=by
  refine F.ok scStore (fun vs H Q E h=>?_) (fun cdv A outer s H vs Q E hr h=>?_)
  · obtain ⟨c,rfl,_⟩:=h;rfl
  · obtain ⟨c,rfl,k⟩:=h
    refine ⟨_,pss_cons (ps_set (i:=1) scStore.nd rfl (Or.inl rfl) pe_int)
      (pss_cons (ps_if (pt_cmpR op_ge (pv 0) (pe_op op_pow pe_int pe_int) (nomark _)) (pss_one (ps_set (i:=1) scStore.nd rfl (Or.inl rfl) (pv 0))) pss_nil)
      (pss_one (ps_ret (pe_lst (pa_cons (pv 1) (pa_cons (pe_op op_mod (pv 0) pe_int) (pa_cons pe_int pa_nil))))))),?_⟩
    refine ⟨_,rfl,_,_,rfl,rfl,⟨by decide,by decide,by decide⟩,_,_,rfl,rfl,_,rfl,?_⟩
    refine if_tail (fun σ H'=>H=H'∧∃ g:Int,σ=[some (.int c),some (.int g)]) ?_ (fun hT=>⟨_,rfl,hT _ _ ⟨rfl,_,rfl⟩⟩) ⟨rfl,_,rfl⟩
    rintro σ H' ⟨rfl,g,rfl⟩
    exact ⟨_,rfl,_,rfl,_,_,rfl,rfl,(by show (0:Int)<2147483629;decide),sz (by simp),fun l hl=>k l _ hl (same_upd hl) ⟨_,_,_,upd_same⟩⟩
theorem scTake:FnScope ["store","many","told","one"] ["store","many"] (defScope sTake):=⟨rfl,rfl,rfl,by decide +kernel,rfl,by decide +kernel,by decide +kernel⟩
theorem ok_take {f:Addr} {fd:FuncData} (F:Fun K "_law_take" "_law_take" sTake f fd):FnOk P w K mg base CX0 1 f fd ["store","many"] spTake:=by
  refine F.ok scTake (fun vs H Q E h=>?_) (fun cdv A outer s H vs Q E hr h=>?_)
  · obtain ⟨s,m,rfl,_⟩:=h;rfl
  · obtain ⟨q,m,rfl,⟨g,c,j,hc⟩,m0,m1,k⟩:=h
    have nd:=scTake.nd
    refine ⟨_,pss_cons (ps_if (pt_cmpR op_gt (ixl (pv 0) pe_int) pe_int (nomark _))
        (pss_cons (ps_set (i:=2) nd rfl (Or.inl rfl) (pe_op op_mod (ixl (pv 0) pe_int) (pv 1)))
        (pss_cons (ps_asg (pe_op op_fdiv (ixl (pv 0) pe_int) (pv 1)) (pg_sub (pv 0) pe_int set_list))
        (pss_one (ps_ret (pv 2))))) pss_nil)
      (pss_cons (ps_asg (pe_op op_add (ixl (pv 0) pe_int) pe_int) (pg_sub (pv 0) pe_int set_list))
      (pss_cons (ps_set (i:=3) nd rfl (Or.inl rfl) (pe_op op_mod (pe_op op_mul (pe_op op_add (ixl (pv 0) pe_int) (pe_op op_mul pe_int (ixl (pv 0) pe_int))) pe_int) pe_int))
      (pss_cons (ps_set (i:=3) nd rfl (Or.inl rfl) (pe_op op_mod (pe_op op_mul (pv 3) (pv 3)) pe_int))
      (pss_cons (ps_set (i:=3) nd rfl (Or.inl rfl) (pe_op op_mod (pe_op op_mul (pe_op op_add (pv 3) (pe_op op_mul pe_int (ixl (pv 0) pe_int))) pe_int) pe_int))
      (pss_one (ps_ret (pe_op op_mod (pe_op op_fdiv (pv 3) pe_int) (pv 1)))))))),?_⟩
    have fin:∀ (c' e' j':Int) (r:Int),0≤r→r<m→Q (.int r) (upd H q (.lst [.int c',.int e',.int j'])):=fun c' e' j' r r0 r1=>k r _ r0 r1 ⟨c',e',j',upd_same⟩ (kp_upd Kp.refl (.inl (by simp)))
    refine ⟨_,rfl,_,_,_,_,rfl,rfl,SqL.of hc,rfl,⟨_,_,rfl,rfl,_,rfl,iteAny ?way1 ?way2⟩⟩
    case way1 =>
      refine ⟨_,rfl,_,_,_,_,rfl,rfl,SqL.of hc,rfl,⟨_,rfl,_,_,rfl,rfl,m0,?_⟩⟩
      refine ⟨_,rfl,_,_,_,_,rfl,rfl,SqL.of hc,rfl,⟨_,rfl,_,_,rfl,rfl,⟨m0,m1⟩,_,rfl,q,_,_,_,rfl,rfl,hc,rfl,?_⟩⟩
      exact ⟨_,rfl,fin (g / m) c j (g % m) (Int.emod_nonneg _ (by lia)) (Int.emod_lt_of_pos _ m0)⟩
    case way2 =>
      refine ⟨_,rfl,_,_,_,_,rfl,rfl,SqL.of hc,rfl,⟨_,_,rfl,rfl,_,rfl,q,_,_,_,rfl,rfl,hc,rfl,?_⟩⟩
      refine ⟨_,rfl,_,_,_,_,rfl,rfl,SqL.of upd_same,rfl,⟨_,rfl,_,_,_,_,rfl,rfl,SqL.of upd_same,rfl,⟨_,_,rfl,rfl,.inl ⟨by decide,by decide⟩,_,_,rfl,rfl,_,_,rfl,rfl,.inr ⟨by decide,by decide⟩,_,_,rfl,rfl,(by show (0:Int)<2147483647;decide),?_⟩⟩⟩
      refine ⟨_,rfl,_,rfl,_,_,rfl,rfl,.inl ⟨by lia,by lia⟩,_,_,rfl,rfl,(by show (0:Int)<2147483629;decide),?_⟩
      refine ⟨_,rfl,_,rfl,_,_,_,_,rfl,rfl,SqL.of upd_same,rfl,⟨_,_,rfl,rfl,.inl ⟨by decide,by decide⟩,_,_,rfl,rfl,_,_,rfl,rfl,.inr ⟨by decide,by decide⟩,_,_,rfl,rfl,(by show (0:Int)<2147483587;decide),?_⟩⟩
      refine ⟨_,rfl,_,_,rfl,rfl,⟨by decide,by decide⟩,_,rfl,_,_,rfl,rfl,m0,?_⟩
      exact fin g c (j+1) _ (Int.emod_nonneg _ (by lia)) (Int.emod_lt_of_pos _ m0)
end
end Hv
namespace Hv
open PySem L2
section
variable {P:Program} {w:World} {K:PySem.W.Frag} {mg:Str→Option Value} {base:Heap}
theorem scFrame:FnScope ["store","longest","base","parts","way","one","weights","k","any_one","some"] ["store","longest"] (defScope sFrame):=⟨rfl,rfl,rfl,by decide +kernel,rfl,by decide +kernel,by decide +kernel⟩
theorem ok_frame {f:Addr} {fd:FuncData} (F:Fun K "_law_frame" "_law_frame" sFrame f fd) (T:Txt mg) (D1:Def P w K mg base 1 "_law_take" ["store","many"] spTake):FnOk P w K mg base CX0 2 f fd ["store","longest"] spFrame:=by
  refine F.ok scFrame (fun vs H Q E h=>?_) (fun cdv A outer s H vs Q E hr h=>?_)
  · obtain ⟨d,L,rfl,_⟩:=h;rfl
  · obtain ⟨d,L,rfl,D,L1,L6,k⟩:=h
    have nd:=scFrame.nd
    refine ⟨_,pss_cons (ps_set (i:=2) nd rfl (Or.inl rfl) (ixl (pe_lst (pa_cons pe_int (pa_cons pe_int (pa_cons pe_int (pa_cons pe_int (pa_cons (pe_op op_add pe_int (pe_fn D1 hr (by rfl) (pa_cons (pv 0) (pa_cons pe_int pa_nil)))) pa_nil)))))) (pe_fn D1 hr (by rfl) (pa_cons (pv 0) (pa_cons pe_int pa_nil)))))
      (pss_cons (ps_cmp1 (defScope sFrame) ["store","longest","base","parts","way","one","weights","k","any_one","some"] ["store","longest"] [0,1] (i:=3) nd rfl (Or.inl rfl) rfl
        (pi_range1 (by rfl) T.range (pa_cons (ixl (pe_lst (pa_cons pe_int (pa_cons pe_int (pa_cons pe_int (pa_cons pe_int pa_nil))))) (pe_fn D1 hr (by rfl) (pa_cons (pv 0) (pa_cons pe_int pa_nil)))) pa_nil))
        (fun cl C s H fp=>pf_nil) (fun cl C s H fp=>pe_op op_add pe_int (pe_fn D1 hr (by rfl) (pa_cons (pv 1) (pa_cons (pv 2) pa_nil)))) (by decide +kernel) (by rfl))
      (pss_cons (ps_if (pt_cmpR op_eq (pe_fn D1 hr (by rfl) (pa_cons (pv 0) (pa_cons pe_int pa_nil))) pe_int (nomark _)) (pss_one (ps_set (i:=3) nd rfl (Or.inl rfl) (pe_op op_rep (pe_slice sl_list (pv 3) po_none (po_some pe_int)) (lenS T.len (by rfl) (pv 3))))) pss_nil)
      (pss_cons (ps_set (i:=4) nd rfl (Or.inl rfl) (pe_fn D1 hr (by rfl) (pa_cons (pv 0) (pa_cons pe_int pa_nil))))
      (pss_cons (ps_set (i:=5) nd rfl (Or.inl rfl) (pe_op op_sub (pe_fn D1 hr (by rfl) (pa_cons (pv 0) (pa_cons pe_int pa_nil))) pe_int))
      (pss_cons (ps_set (i:=6) nd rfl (Or.inl rfl) (pe_lst pa_nil))
      (pss_cons (ps_for PassesOwn.never rfl (pi_range1 (by rfl) T.range (pa_cons (pe_callB (call_sumL rfl) (by rfl) T.sum boot_sum (pa_cons (pv 3) pa_nil)) pa_nil)) (pg_name (i:=7) nd rfl (Or.inl rfl))
        (pss_cons (ps_set (i:=8) nd rfl (Or.inl rfl) (pe_op op_sub (pe_fn D1 hr (by rfl) (pa_cons (pv 0) (pa_cons pe_int pa_nil))) pe_int))
        (pss_cons (ps_set (i:=9) nd rfl (Or.inl rfl) (pe_lst (pa_cons pe_int (pa_cons (pv 5) (pa_cons (pe_op op_mod (pv 8) pe_int) (pa_cons (pv 8)
            (pa_cons (pe_op op_mul (pv 8) (pe_callTy call_int1 (by rfl) T.int boot_int (pa_cons (pe_cmpR op_eq (pe_fn D1 hr (by rfl) (pa_cons (pv 0) (pa_cons pe_int pa_nil))) pe_int (nomark _)) pa_nil)))
            (pa_cons (pe_op op_add (pe_op op_mod (pv 7) (ixl (pv 3) pe_int)) pe_int) pa_nil))))))))
        (pss_one (ps_expr (pe_bm PySem.F.plainAttrs_list PySem.F.slot_list_append PySem.F.type_list_append mt_append (pv 6) (pa_cons (ixl (pv 9) (pv 4)) pa_nil)))))))
      (pss_one (ps_ret (pe_tup (pa_cons (pv 2) (pa_cons (pv 3) (pa_cons (pv 6) pa_nil)))))))))))),?_⟩
    -- base
    refine ⟨_,rfl,d,15,rfl,D,by decide,by decide,fun r1 H1 a1 b1 E1 k1=>⟨_,_,rfl,rfl,sz (by simp),fun l1 hl1=>?_⟩⟩
    refine ⟨_,rfl,d,5,rfl,E1.keep (same_upd hl1),by decide,by decide,fun r2 H2 a2 b2 E2 k2=>?_⟩
    obtain ⟨bi,eb,hb⟩:=at_ints (ns:=[2,3,10,16,2+r1]) (Pr:=fun n=>2≤n∧n≤16) a2 b2 (by simp;lia)
    obtain ⟨b,rfl⟩:∃ b:Nat,bi=b:=⟨bi.toNat,by lia⟩
    refine r_ixl (k2 l1 _ upd_same (E1.off1 hl1)) eb ?_
    have K2:Kp [d] H H2:=k1.trans ((Kp.of (same_upd hl1)).trans k2)
    -- parts
    refine ⟨sz (by simp),fun l3 hl3=>⟨_,rfl,d,4,rfl,E2.keep (same_upd hl3),by decide,by decide,fun r5 H5 a5 b5 E5 k5=>?_⟩⟩
    obtain ⟨np,en,hnp⟩:=at_ints (ns:=[2,2,3,4]) (Pr:=fun n=>2≤n∧n≤4) a5 b5 (by simp)
    have K5:Kp [d] H H5:=K2.trans ((Kp.of (same_upd hl3)).trans k5)
    refine r_ixl (k5 l3 _ upd_same (E2.off1 hl3)) en ⟨_,rfl,by lia,by lia,comp_range (lo:=0) (n:=np.toNat) (fun i ys H6=>∃ ps:List Nat,ys=natV ps∧ps.length=i∧(∀ x∈ps,1≤x∧x≤6)∧Store H6 d∧Kp [d] H H6)
      ⟨[],rfl,rfl,fun x hx=>by simp at hx,E5,K5⟩ ?_ ?_⟩
    · rintro i ys H6 hi ⟨ps,rfl,hl,hp,E6,K6⟩
      refine ⟨szl (by simp [natV];lia),?_⟩
      refine ⟨_,rfl,_,rfl,d,L,rfl,E6,by lia,by lia,fun r H7 a7 b7 E7 k7=>⟨_,_,rfl,rfl,ps++[(1+r).toNat],?_,by simp [hl],fun x hx=>?_,E7,K6.trans k7⟩⟩
      · have e:(((1+r).toNat:Nat):Int)=1+r:=by lia
        simp [natV]
        lia
      · rcases List.mem_append.mp hx with hx | hx
        · exact hp x hx
        · have:x=(1+r).toNat:=by simpa using hx
          lia
    rintro ys H6 ⟨ps,rfl,hl,hp,E6,K6⟩ a ha
    have hna:a∉[d]:=E6.off1 ha
    refine ⟨_,rfl,d,3,rfl,E6.keep (same_upd ha),by decide,by decide,fun r6 H7 a6 b6 E7 k7=>⟨rfl,_,rfl,?_⟩⟩
    have K7:Kp [d] H H7:=K6.trans ((Kp.of (same_upd ha)).trans k7)
    have h7:H7 a=some (.lst (natV ps)):=k7 a _ upd_same hna
    refine if_tail (fun σ H'=>∃ (a':Addr) (ps':List Nat),σ=[some (.ref d),some (.int L),some (.int b),some (.ref a'),none,none,none,none,none,none]∧Store H' d∧Kp [d] H H'∧H' a'=some (.lst (natV ps'))∧a'∉[d]∧
      H a'=none∧2≤ps'.length∧ps'.length≤4∧∀ x∈ps',1≤x∧x≤6) ?tail (fun hT=>?thn) ⟨a,ps,rfl,E7,K7,h7,hna,K6.free ha hna,by lia,by lia,hp⟩
    case thn =>
      refine ⟨_,rfl,_,rfl,a,_,rfl,SqL.of h7,fun l5 hl5=>?_⟩
      have s5:Same H7 (upd H7 l5 (.lst (cutV (natV ps) none (some 1)))):=same_upd hl5
      obtain ⟨x0,rr,ee⟩:∃ x0 rr,ps=x0::rr:=by
        cases ps with
        | nil=>simp at hl;lia
        | cons x0 rr=>exact ⟨x0,rr,rfl⟩
      have ec:cutV (natV ps) none (some 1)=[V.int (x0:Int)]:=by
        rw [show (1:Int)=((1:Nat):Int) from rfl,cut_to,ee]
        rfl
      refine ⟨_,rfl,a,_,rfl,.inl (SqL.of (s5 _ _ h7)),l5,_,_,rfl,rfl,upd_same,by lia,?_,?_,fun l6 hl6=>hT _ _ ⟨l6,List.replicate ps.length x0,rfl,?_,?_,?_,?_,K7.free (s5.free hl6) ((E7.keep s5).off1 hl6),by simp;lia,by simp;lia,fun x hx=>?_⟩⟩
      · simp [natV];lia
      · rw [ec];exact sz (by simp [natV];lia)
      · exact (E7.keep s5).keep (same_upd hl6)
      · exact K7.same (s5.trans (same_upd hl6))
      · rw [upd_same,ec]
        simp only [natV,List.length_map,Int.toNat_natCast]
        rw [rep_nat]
      · exact (E7.keep s5).off1 hl6
      · have:=List.eq_of_mem_replicate hx
        rw [this]
        exact hp x0 (by rw [ee];simp)
    case tail =>
      rintro σ H8 ⟨a',ps',rfl,E8,K8,h8,n8,f8,l2',l4',pr'⟩
      have hsum:=Ma.sum_le6 ps' pr'
      obtain ⟨p0,pr,ep⟩:∃ x0 rr,ps'=x0::rr:=by
        cases ps' with
        | nil=>simp at l2'
        | cons x0 rr=>exact ⟨x0,rr,rfl⟩
      have hp0:=pr' p0 (by rw [ep];simp)
      have eat:atI (natV ps') 0=some (.int (p0:Int)):=by rw [ep];exact atI_nat (j:=0) (by simp [natV])
      refine ⟨_,rfl,d,6,rfl,E8,by decide,by decide,fun wv H9 w0 w1 E9 k9=>⟨_,rfl,d,19,rfl,E9,by decide,by decide,fun ov H9b o0 o1 E9b k9b=>⟨_,_,rfl,rfl,sz (by decide),fun l hl=>?_⟩⟩⟩
      have h9:H9b a'=some (.lst (natV ps')):=k9b a' _ (k9 a' _ h8 n8) n8
      have s9:Same H9b (upd H9b l (.lst [])):=same_upd hl
      have nl:l∉[d]:=E9b.off1 hl
      have nld:l≠d:=E9b.off hl
      have al:a'≠l:=ne_of_none h9 hl
      have K9:Kp [d] H H9b:=(K8.trans k9).trans k9b
      refine ⟨_,rfl,a',ps'.map fun (p:Nat)=>(p:Int),rfl,SqL.of (by rw [← natV_eq];exact s9 _ _ h9),⟨by rw [List.length_map];lia,nats_sum pr'⟩,_,rfl,?_⟩
      rw [Ma.sum_cast]
      refine ⟨by lia,by lia,?_⟩
      have en':(((ps'.sum:Nat):Int)).toNat=ps'.sum:=by lia
      rw [en']
      refine for_range (n:=ps'.sum) (fun i σ H6=>∃ (ws:List Int) (v7 v8 v9:Option V),σ=[some (.ref d),some (.int L),some (.int b),some (.ref a'),some (.int wv),some (.int (ov - 9)),some (.ref l),v7,v8,v9]∧Store H6 d∧Kp [d] H H6∧H6 a'=some (.lst (natV ps'))∧
        H6 l=some (.lst (ws.map V.int))∧ws.length=i∧∀ x∈ws,-9≤x∧x≤9) ⟨[],none,none,none,rfl,E9b.keep s9,K9.same s9,s9 _ _ h9,upd_same,rfl,fun x hx=>by simp at hx⟩ ?_ ?_
      · rintro i σ H10 hi ⟨ws,v7,v8,v9,rfl,E10,K10,h10,hl10,hw10,hr10⟩
        refine ⟨_,rfl,d,19,rfl,E10,by decide,by decide,fun av G1 x1 y1 F1 j1=>⟨_,_,rfl,rfl,?_⟩⟩
        refine ⟨_,rfl,_,rfl,_,_,rfl,rfl,(by show (0:Int)<3;decide),_,rfl,_,rfl,_,rfl,d,4,rfl,F1,by decide,by decide,fun r3 G3 x3 y3 F3 j3=>?_⟩
        have J3:Kp [d] H10 G3:=j1.trans j3
        have la:G3 a'=some (.lst (natV ps')):=J3 a' _ h10 n8
        have ll:G3 l=some (.lst (ws.map V.int)):=J3 l _ hl10 nl
        refine ⟨rfl,.inr ⟨_,rfl,_,_,rfl,rfl,b01 _,?_⟩⟩
        refine ⟨_,rfl,_,rfl,_,_,_,_,rfl,rfl,SqL.of la,eat,⟨_,_,rfl,rfl,(by show (0:Int)<p0;lia),_,_,rfl,rfl,sz (by simp),fun m hm=>?_⟩⟩
        have nm:m≠d:=F3.off hm
        have q1:=Int.emod_nonneg (0+(i:Int)) (show (p0:Int)≠0 by lia)
        have q2:=Int.emod_lt_of_pos (0+(i:Int)) (show (0:Int)<p0 by lia)
        have q3:=Int.emod_nonneg (av - 9) (show (3:Int)≠0 by decide)
        have q4:=Int.emod_lt_of_pos (av - 9) (show (0:Int)<3 by decide)
        obtain ⟨x,ev,hx⟩:=at_ints (ns:=[1,ov - 9,(av - 9) % 3,av - 9,(av - 9)*(if (decide (V.int r3=V.int 0))=true then 1 else 0),(0+(i:Int)) % (p0:Int)+1]) (i:=wv) (Pr:=fun n => -9≤n∧n≤9) w0 w1 (by
          intro n hn
          simp only [List.mem_cons,List.not_mem_nil,or_false] at hn
          rcases hn with rfl | rfl | rfl | rfl | rfl | rfl
          · decide
          · lia
          · lia
          · lia
          · split <;> lia
          · lia)
        refine ⟨_,rfl,.inl ⟨rfl,_,SqL.of ((same_upd hm) _ _ ll)⟩,_,rfl,_,rfl,_,_,_,_,rfl,rfl,SqL.of upd_same,ev,⟨l,_,_,rfl,rfl,(same_upd hm) _ _ ll,szl (by rw [List.length_map];lia),ws++[x],_,_,_,rfl,?_,?_,?_,?_,by simp [hw10],fun y hy=>?_⟩⟩
        · exact (F3.keep (same_upd hm)).upd nld
        · exact kp_upd ((K10.trans J3).same (same_upd hm)) (.inr (K9.free hl nl))
        · rw [upd_ne al];exact (same_upd hm) _ _ la
        · rw [upd_same];simp
        · rcases List.mem_append.mp hy with hy | hy
          · exact hr10 y hy
          · have:y=x:=by simpa using hy
            rw [this];exact hx
      · rintro σ H6 ⟨ws,v7,v8,v9,rfl,E10,K10,h10,hl10,hw10,hr10⟩
        refine ⟨_,rfl,_,rfl,_,rfl,sz (by simp),fun f' hf'=>?_⟩
        have sf:Same H6 (upd H6 f' (.tup [.int b,.ref a',.ref l])):=same_upd hf'
        exact k f' a' l b ps' ws _ (E10.keep sf) (K10.same sf) ⟨upd_same,sf _ _ h10,sf _ _ hl10,⟨by lia,by lia,l2',l4',pr',hw10,hr10⟩⟩ (K10.free hf' (E10.off1 hf')) f8 (K9.free hl nl)
end
end Hv
namespace Hv
open PySem L2
section
variable {P:Program} {w:World} {K:PySem.W.Frag} {mg:Str→Option Value} {base:Heap}
end
end Hv
namespace Hv
open PySem L2
theorem boot_dict:bootBuiltins "dict"=some (.type "dict"):=PyProof.Rows.boot_dict
theorem boot_sorted:bootBuiltins "sorted"=some (.builtin "sorted"):=PyProof.Rows.boot_sorted
theorem ints_at {f:List (Int×Int)} {i:Nat} {k:Key} {v:V} (h:(intsD f)[i]?=some (k,v)):∃ p:Int×Int,f[i]?=some p∧k=Sum.inl p.1∧v=.int p.2:=by
  rw [intsD,List.getElem?_map] at h
  cases e:f[i]? with
  | none=>rw [e] at h;cases h
  | some p =>
    rw [e] at h
    have z:=Option.some.inj h
    exact ⟨p,rfl,(congrArg Prod.fst z).symm,(congrArg Prod.snd z).symm⟩
theorem dget_ints {H:Hp} {a:Addr} {f:List (Int×Int)} {k:Int} (h:Rd H a (.dK (intsD f))):DGet H a (.int k) ((Me.look f k).map V.int):=.inl ⟨intsD f,Sum.inl k,h,rfl,(valV_ints f k).symm⟩
theorem getD_int (o:Option Int):(o.map V.int).getD (.int 0)=.int (o.getD 0):=by cases o <;> rfl
theorem dput_ints {H:Hp} {a:Addr} {f:List (Int×Int)} {k v:Int} (h:H a=some (.dK (intsD f))) (hl:f.length≤100000):DPut H a (.int k) (.int v) (upd H a (.dK (intsD (Me.put f k v)))):=by
  rw [← put_ints]
  exact DPut.k (k:=Sum.inl k) h (szl (by rw [intsD,List.length_map];lia))
noncomputable def spOneMore:Sp:=fun vs H Q _=>∃ (a:Addr) (f:List (Int×Int)) (b:Nat) (w:Int) (m:Nat),vs=[.ref a,.int b,.int w]∧H a=some (.dK (intsD f))∧Me.Ok f m∧m≤1000∧b≤16∧(-9≤w∧w≤9)∧
  ∀ p H',H p=none→Same H H'→H' p=some (.dK (intsD (Me.oneMore f b w)))→Q (.ref p) H'
section
variable {P:Program} {w:World} {K:PySem.W.Frag} {mg:Str→Option Value} {base:Heap}
theorem scOneMore:FnScope ["ways","base","weight","longer","total","figure","reached"] ["ways","base","weight"] (defScope sOneMore):=⟨rfl,rfl,rfl,by decide +kernel,rfl,by decide +kernel,by decide +kernel⟩
theorem ok_onemore {f:Addr} {fd:FuncData} (F:Fun K "with_one_more_figure" "with_one_more_figure" sOneMore f fd) (T:Txt mg):FnOk P w K mg base CX0 1 f fd ["ways","base","weight"] spOneMore:=by
  refine F.ok scOneMore (fun vs H Q E h=>?_) (fun cdv A outer s H vs Q E hr h=>?_)
  · obtain ⟨a,f,b,wt,m,rfl,_⟩:=h;rfl
  · obtain ⟨a,f,b,wt,m,rfl,ha,ok,hm,hb,hw,k⟩:=h
    have nd:=scOneMore.nd
    have hu:=hu_of hr
    refine ⟨_,pss_cons (ps_set (i:=3) nd rfl (Or.inl rfl) pe_dnewK)
      (pss_cons (ps_for PassesOwn.never rfl (pi_dict (pv 0)) (pg_name (i:=4) nd rfl (Or.inl rfl))
        (pss_one (ps_for PassesOwn.never rfl (pi_range1 (by rfl) T.range (pa_cons (pv 1) pa_nil)) (pg_name (i:=5) nd rfl (Or.inl rfl))
          (pss_cons (ps_set (i:=6) nd rfl (Or.inl rfl) (pe_op op_add (pv 4) (pe_op op_mul (pv 5) (pv 2))))
          (pss_one (ps_dput hu (pv 3) (pv 6) (pe_op op_add (pe_dget2 hu (pv 3) (pv 6) pe_int ⟨rfl,rfl,rfl,rfl⟩) (pe_dget hu (pv 0) (pv 4) (fun _ _=>rfl))) rfl))))))
      (pss_thaw (pss_one (ps_ret (pv 3))))),?_⟩
    intro l hl
    have nal:a≠l:=ne_of_none ha hl
    refine ⟨_,rfl,a,intsD f,rfl,(by rw [upd_ne nal];exact ha),fun o=>for_dict (fun i σ H2=>∃ v4 v5 v6,σ=[some (.ref a),some (.int b),some (.int wt),some (.ref l),v4,v5,v6]∧H2 a=some (.frz o (.dK (intsD f)))∧Kp [a] H H2∧H2 l=some (.dK (intsD (Me.oneMore (f.take i) b wt))))
      ⟨none,none,none,rfl,upd_same,kp_upd (kp_upd Kp.refl (.inr hl)) (.inl (by simp)),?_⟩ (fun i σ H2 _ h=>by obtain ⟨_,_,_,_,z,_⟩:=h;exact z) ?_ ?_⟩
    · rw [upd_ne nal.symm,upd_same];rfl
    · rintro i kk v σ H2 hk ⟨v4,v5,v6,rfl,fa,kp,hl2⟩
      obtain ⟨p,hp,rfl,rfl⟩:=ints_at hk
      have pm:=List.mem_of_getElem? hp
      have pb:=ok.bd p.1 (List.mem_map.mpr ⟨p,pm,rfl⟩)
      have o0:=Me.oneMore_ok ok hw hb i
      refine ⟨_,rfl,_,rfl,by lia,by lia,for_range (n:=(b:Int).toNat) (fun d σ H3=>∃ v5 v6,σ=[some (.ref a),some (.int b),some (.int wt),some (.ref l),some (.int p.1),v5,v6]∧H3 a=some (.frz o (.dK (intsD f)))∧Kp [a] H H3∧H3 l=some (.dK (intsD (Me.figs p wt d (Me.oneMore (f.take i) b wt)))))
        ⟨v5,v6,rfl,fa,kp,hl2⟩ ?_ ?_⟩
      · rintro d σ H3 hd ⟨v5,v6,rfl,fa3,kp3,hl3⟩
        have hd':d<b:=by lia
        have od:=Me.figs_ok pb hw hb o0 d (by lia)
        have hlen:=Me.Ok.len (m:=m+135) (by push_cast;exact od)
        refine ⟨_,rfl,_,rfl,_,rfl,_,_,rfl,rfl,.inr ⟨by lia,by lia⟩,_,_,rfl,rfl,?_⟩
        refine ⟨_,rfl,l,rfl,.inl ⟨_,.inl hl3⟩,_,rfl,_,dget_ints (.inl hl3),_,rfl,_,rfl,a,.int p.2,rfl,?_,_,_,getD_int _,rfl,_,rfl,_,rfl,l,_,rfl,dput_ints hl3 (by lia),?_⟩
        · have z:=dget_ints (k:=p.1) (.inr ⟨o,fa3⟩)
          rw [Me.look_mem ok.nd pm] at z
          exact z
        · refine ⟨_,_,rfl,?_,kp_upd kp3 (.inr hl),?_⟩
          · rw [upd_ne nal];exact fa3
          · rw [upd_same,Me.figs_succ]
            have e0:(0:Int)+(d:Int)=(d:Int):=Int.zero_add _
            rw [e0]
            rfl
      · rintro σ H3 ⟨v5,v6,rfl,fa3,kp3,hl3⟩
        refine ⟨_,_,_,rfl,fa3,kp3,?_⟩
        have eb:(b:Int).toNat=b:=by lia
        rw [eb] at hl3
        rw [Me.oneMore_take hp]
        exact hl3
    · rintro σ H2 ⟨v4,v5,v6,rfl,fa,kp,hl2⟩
      have el:(intsD f).length=f.length:=by rw [intsD,List.length_map]
      rw [el,List.take_length] at hl2
      refine ⟨a,o,intsD f,fa,(fun o' u z=>by
        have z':H a=some (.frz o' u):=z
        rw [ha] at z';cases z'),_,rfl,k l _ hl (fun x ob e=>?_) (by rw [upd_ne nal.symm];exact hl2)⟩
      by_cases hx:x=a
      · rw [hx,upd_same,← ha,← hx];exact e
      · rw [upd_ne hx];exact kp x ob e (by simpa using hx)
end
end Hv
namespace Hv
open PySem L2
theorem pairs_keep {H H':Hp} (s:Same H H') {ts:List Addr} {kvs:List (Key×V)} (h:PairsAt H ts kvs):PairsAt H' ts kvs:=Paired.mapP h fun _ _ e=>s _ _ e
theorem pairs_snoc {H:Hp} {t:Addr} {p:Key×V} (h:H t=some (.tup [kV p.1,p.2])) {ts:List Addr} {kvs:List (Key×V)} (q:PairsAt H ts kvs):PairsAt H (ts++[t]) (kvs++[p]):=by
  induction q with
  | nil=>exact .cons h .nil
  | cons h0 _ ih=>exact .cons h0 ih
noncomputable def spWaysW:Sp:=fun vs H Q _=>∃ (b:Nat) (r:Addr) (ws:List Int),vs=[.int b,.ref r]∧H r=some (.lst (ws.map V.int))∧b≤16∧(∀ x∈ws,-9≤x∧x≤9)∧ws.length≤6∧
  ∀ p H' g,H p=none→Same H H'→H' p=some (.dK (intsD g))→g.Perm (Me.waysW b ws)→Q (.ref p) H'
theorem waysOk {b i:Nat} {ws:List Int} (hw:∀ x∈ws,-9≤x∧x≤9) (hb:b≤16):Me.Ok (Me.waysW b (ws.take i)) ((135*i:Nat):Int):=by
  have h:=Me.ways_ok hw hb i
  push_cast
  exact h
section
variable {P:Program} {w:World} {K:PySem.W.Frag} {mg:Str→Option Value} {base:Heap}
theorem scWaysW:FnScope ["base","weights","ways","weight"] ["base","weights"] (defScope sWaysW):=⟨rfl,rfl,rfl,by decide +kernel,rfl,by decide +kernel,by decide +kernel⟩
theorem ok_waysw {f:Addr} {fd:FuncData} (F:Fun K "ways_of_weights" "ways_of_weights" sWaysW f fd) (T:Txt mg) (ndict:mg "dict"=none) (nsorted:mg "sorted"=none) (DO:Def P w K mg base 1 "with_one_more_figure" ["ways","base","weight"] spOneMore) :
    FnOk P w K mg base CX0 2 f fd ["base","weights"] spWaysW:=by
  refine F.ok scWaysW (fun vs H Q E h=>?_) (fun cdv A outer s H vs Q E hr h=>?_)
  · obtain ⟨b,r,ws,rfl,_⟩:=h;rfl
  · obtain ⟨b,r,ws,rfl,hrow,hb,hw,hlen,k⟩:=h
    have nd:=scWaysW.nd
    have hu:=hu_of hr
    refine ⟨_,pss_cons (ps_set (i:=2) nd rfl (Or.inr rfl) (pe_disp (pps_cons pe_int pe_int pps_nil) rfl rfl (by simp) (by decide)))
      (pss_cons (ps_for PassesOwn.never rfl (pi_list (pv 1)) (pg_name (i:=3) nd rfl (Or.inl rfl)) (pss_one (ps_set (i:=2) nd rfl (Or.inr rfl) (pe_fn DO hr (by rfl) (pa_cons (pv 2) (pa_cons (pv 0) (pa_cons (pv 3) pa_nil)))))))
      (pss_one (ps_ret (pe_callTy (call_dictP rfl) (by rfl) ndict boot_dict (pa_cons (pe_cmp1 (defScope sWaysW) ["base","weights","ways","weight"] ["ways"] [2] rfl (pi_list (pe_callB (call_sortedD rfl) (by rfl) nsorted boot_sorted (pa_cons (pv 2) pa_nil)))
        (fun cl C s H fp=>pf_nil) (fun cl C s H fp=>pe_tup (pa_cons (pv 0) (pa_cons (pe_dget hu (pv 1) (pv 0) (fun _ _=>rfl)) pa_nil))) (by decide +kernel)) pa_nil))))),?_⟩
    intro p0 hp0
    refine ⟨upd_same,[(Sum.inl 0,.int 1)],rfl,by decide,?_⟩
    have s0:Same H (upd (upd H p0 (.dK [])) p0 (.dK (mergeK [] [(Sum.inl 0,V.int 1)]))):=same_upd2 (same_upd hp0) hp0
    have u0:(upd (upd H p0 (.dK [])) p0 (.dK (mergeK [] [(Sum.inl 0,V.int 1)]))) p0=some (.dK (intsD [(0,1)])):=upd_same
    generalize upd (upd H p0 (.dK [])) p0 (.dK (mergeK [] [(Sum.inl 0,V.int 1)]))=H0 at s0 u0⊢
    refine ⟨_,rfl,r,rfl,⟨_,SqL.of (s0 _ _ hrow)⟩,for_list (K:=K) (a:=r) (xs:=ws.map V.int) (fun i σ H2=>∃ p v3,σ=[some (.int b),some (.ref r),some (.ref p),v3]∧Same H H2∧H p=none∧H2 p=some (.dK (intsD (Me.waysW b (ws.take i)))))
      ⟨p0,none,rfl,s0,hp0,u0⟩ (fun i σ H2 _ h=>by obtain ⟨_,_,_,s2,_⟩:=h;exact SqL.of (s2 _ _ hrow)) ?_ ?_⟩
    · rintro i x σ H2 hx ⟨p,v3,rfl,s2,np,hp⟩
      have hil:i<ws.length:=by have:=(List.getElem?_eq_some_iff.mp hx).1;simpa using this
      obtain ⟨y,hy,rfl⟩:∃ y:Int,ws[i]?=some y∧x=.int y:=by
        rw [List.getElem?_map] at hx
        cases e:ws[i]? with
        | none=>rw [e] at hx;cases hx
        | some d=>rw [e] at hx;exact ⟨d,rfl,(Option.some.inj hx).symm⟩
      refine ⟨_,rfl,_,rfl,_,rfl,p,_,b,y,135*i,rfl,hp,waysOk hw hb,by lia,hb,hw y (List.mem_of_getElem? hy),fun p' H3 np' s3 hp3=>⟨p',_,rfl,s2.trans s3,s2.free np',?_⟩⟩
      rw [Me.waysW_take hy]
      exact hp3
    rintro σ H2 ⟨p,v3,rfl,s2,np,hp⟩
    have oW:Me.Ok (Me.waysW b ws) ((135*ws.length:Nat):Int):=by
      have:=waysOk (i:=ws.length) hw hb
      rwa [List.take_length] at this
    rw [List.length_map,List.take_length] at hp
    have hWl:=oW.len
    generalize Me.waysW b ws=W at hp oW hWl k
    refine ⟨_,rfl,p,intsD W,Me.keys W,rfl,.inl hp,by simp [intsD,Me.keys],fun l ns' hl hperm=>?_⟩
    have s3:=same_upd (o:=.lst (ns'.map V.int)) hl
    have u3:(upd H2 l (.lst (ns'.map V.int))) l=some (.lst (ns'.map V.int)):=upd_same
    generalize upd H2 l (.lst (ns'.map V.int))=H3 at s3 u3⊢
    have hp3:=s3 _ _ hp
    have hnl:ns'.length=W.length:=by rw [hperm.length_eq];simp [Me.keys]
    refine ⟨l,rfl,⟨_,SqL.of u3⟩,comp_list (K:=K) (a:=l) (xs:=ns'.map V.int) (fun i ys H'=>∃ ts,ys=ts.map V.ref∧ts.length=i∧Same H3 H'∧PairsAt H' ts (intsD ((ns'.take i).map fun n=>(n,(Me.look W n).getD 0))))
      ⟨[],rfl,rfl,Same.refl _,.nil⟩ (fun i ys H' _ h=>by obtain ⟨_,_,_,s',_⟩:=h;exact SqL.of (s' _ _ u3)) ?_ ?_⟩
    · rintro i x ys H' hx ⟨ts,rfl,htl,s',pa⟩
      have hil:i<ns'.length:=by have:=(List.getElem?_eq_some_iff.mp hx).1;simpa using this
      obtain ⟨n,hn,rfl⟩:∃ n:Int,ns'[i]?=some n∧x=.int n:=by
        rw [List.getElem?_map] at hx
        cases e:ns'[i]? with
        | none=>rw [e] at hx;cases hx
        | some d=>rw [e] at hx;exact ⟨d,rfl,(Option.some.inj hx).symm⟩
      obtain ⟨q,hq,eq⟩:=List.mem_map.mp (hperm.mem_iff.mp (List.mem_of_getElem? hn))
      have hlk:Me.look W n=some q.2:=by rw [← eq];exact Me.look_mem oW.nd hq
      refine ⟨szl (by rw [List.length_map];lia),_,rfl,_,rfl,_,rfl,p,.int q.2,rfl,?_,sz (by simp),fun t ht=>⟨ts++[t],by simp,by simp [htl],s'.trans (same_upd ht),?_⟩⟩
      · have z:=dget_ints (k:=n) (.inl (s' _ _ hp3))
        rw [hlk] at z
        exact z
      · rw [List.take_add_one,hn]
        have e2:intsD ((ns'.take i++(some n).toList).map fun n=>(n,(Me.look W n).getD 0))=intsD ((ns'.take i).map fun n=>(n,(Me.look W n).getD 0))++[(Sum.inl n,V.int q.2)]:=by
          simp [intsD,hlk]
        rw [e2]
        exact pairs_snoc (p:=(Sum.inl n,V.int q.2)) upd_same (pairs_keep (same_upd ht) pa)
    rintro ys H' ⟨ts,rfl,htl,s',pa⟩ l2 hl2
    rw [List.length_map,List.take_length] at pa
    have hg:=Me.pairs_perm oW.nd hperm
    have gnd:(Me.keys (ns'.map fun n=>(n,(Me.look W n).getD 0))).Nodup:=(hg.map Prod.fst).nodup_iff.mpr oW.nd
    refine ⟨l2,ts,_,rfl,upd_same,pairs_keep (same_upd hl2) pa,fun q hq=>?_⟩
    have em:mergeK [] (intsD (ns'.map fun n=>(n,(Me.look W n).getD 0)))=intsD (ns'.map fun n=>(n,(Me.look W n).getD 0)):=by
      have z:=merge_ints (ns'.map fun n=>(n,(Me.look W n).getD 0)) []
      rw [Me.merge_new _ [] (by simpa using gnd)] at z
      exact z
    rw [em]
    have S:=s2.trans (s3.trans (s'.trans (same_upd (o:=.lst (ts.map V.ref)) hl2)))
    exact k q _ _ (S.free hq) (S.trans (same_upd hq)) upd_same hg
end
end Hv
namespace Me
noncomputable abbrev tot (f:List (Int×Int)):Int:=(f.map (·.2)).sum
theorem repl_none {f:List (Int×Int)} {k v:Int} (h:k∉keys f):(f.map fun p=>if p.1=k then (p.1,v) else p)=f:=by
  induction f with
  | nil=>rfl
  | cons p f ih =>
    have h1:p.1≠k:=fun z=>h (by simp [keys,z])
    have h2:k∉keys f:=fun z=>h (List.mem_cons_of_mem _ z)
    rw [List.map_cons,ih h2,if_neg h1]
theorem put_hit {f:List (Int×Int)} {a x v:Int} (h:a∉keys f):put ((a,x)::f) a v=(a,v)::f:=by
  unfold put
  rw [if_pos (by simp),List.map_cons,repl_none h,if_pos rfl]
theorem put_miss {f:List (Int×Int)} {a x k v:Int} (h:a≠k):put ((a,x)::f) k v=(a,x)::put f k v:=by
  unfold put
  have e:(((a,x)::f).any fun p=>decide (p.1=k))=f.any fun p=>decide (p.1=k):=by
    rw [List.any_cons]
    simp [h]
  rw [e]
  split
  · rw [List.map_cons,if_neg h]
  · rfl
theorem look_hit {f:List (Int×Int)} {a x:Int}:look ((a,x)::f) a=some x:=by simp [look]
theorem look_miss {f:List (Int×Int)} {a x k:Int} (h:a≠k):look ((a,x)::f) k=look f k:=by simp [look,h]
theorem add_hit {f:List (Int×Int)} {a x n:Int} (h:a∉keys f):addTo ((a,x)::f) a n=(a,x+n)::f:=by
  unfold addTo
  rw [look_hit,put_hit h]
  rfl
theorem add_miss {f:List (Int×Int)} {a x k n:Int} (h:a≠k):addTo ((a,x)::f) k n=(a,x)::addTo f k n:=by
  unfold addTo
  rw [look_miss h,put_miss h]
theorem add_tot {k n:Int}:∀ {f:List (Int×Int)},(keys f).Nodup→tot (addTo f k n)=tot f+n
  | [],_=>by simp [addTo,put,look,tot]
  | (a,x)::f,nd=>by
    have nd1:a∉keys f:=(List.nodup_cons.mp nd).1
    have nd2:(keys f).Nodup:=(List.nodup_cons.mp nd).2
    by_cases e:a=k
    · subst e
      rw [add_hit nd1]
      simp only [tot,List.map_cons,List.sum_cons]
      lia
    · have ih:=add_tot (k:=k) (n:=n) nd2
      rw [add_miss e]
      simp only [tot,List.map_cons,List.sum_cons] at ih⊢
      lia
theorem add_nn {k n:Int} (hn:0≤n):∀ {f:List (Int×Int)},(keys f).Nodup→(∀ p∈f,0≤p.2)→∀ p∈addTo f k n,0≤p.2
  | [],_,_=>by
    intro p hp
    have:p=(k,0+n):=by simpa [addTo,put,look] using hp
    rw [this]
    show 0≤0+n
    lia
  | (a,x)::f,nd,h=>by
    have nd1:a∉keys f:=(List.nodup_cons.mp nd).1
    have nd2:(keys f).Nodup:=(List.nodup_cons.mp nd).2
    have hx:0≤x:=h (a,x) (by simp)
    have hf:∀ p∈f,0≤p.2:=fun p hp=>h p (by simp [hp])
    by_cases e:a=k
    · subst e
      rw [add_hit nd1]
      intro p hp
      rcases List.mem_cons.mp hp with rfl | hp
      · show 0≤x+n
        lia
      · exact hf p hp
    · rw [add_miss e]
      intro p hp
      rcases List.mem_cons.mp hp with rfl | hp
      · exact hx
      · exact add_nn hn nd2 hf p hp
theorem add_nd {f:List (Int×Int)} {k n:Int} (nd:(keys f).Nodup):(keys (addTo f k n)).Nodup:=keys_put nd
structure Tw (f:List (Int×Int)) (t:Int):Prop where
  nd:(keys f).Nodup
  nn:∀ p∈f,0≤p.2
  tt:tot f=t
theorem Tw.add {f:List (Int×Int)} {t k n:Int} (o:Tw f t) (hn:0≤n):Tw (addTo f k n) (t+n):=⟨add_nd o.nd,add_nn hn o.nd o.nn,by rw [add_tot o.nd,o.tt]⟩
theorem Tw.figs {f:List (Int×Int)} {t w:Int} {p:Int×Int} (o:Tw f t) (hp:0≤p.2):∀ n:Nat,Tw (figs p w n f) (t+n*p.2)
  | 0=>by
    have e:t+((0:Nat):Int)*p.2=t:=by simp
    rw [e];exact o
  | n+1=>by
    have e:t+((n+1:Nat):Int)*p.2=(t+n*p.2)+p.2:=by push_cast;rw [Int.add_mul];lia
    rw [figs_succ,e]
    exact (Tw.figs o hp n).add hp
theorem Tw.more {b:Nat} {w:Int}:∀ {f:List (Int×Int)} {acc:List (Int×Int)} {t:Int},Tw acc t→(∀ p∈f,0≤p.2)→Tw (f.foldl (fun acc p=>Me.figs p w b acc) acc) (t+b*tot f)
  | [],acc,t,o,_=>by
    have e:t+(b:Int)*tot []=t:=by simp [tot]
    rw [e];exact o
  | p::f,acc,t,o,h=>by
    have e:t+(b:Int)*tot (p::f)=(t+b*p.2)+b*tot f:=by
      simp only [tot,List.map_cons,List.sum_cons]
      rw [Int.mul_add];lia
    rw [e,List.foldl_cons]
    exact Tw.more (o.figs (h p (by simp)) b) (fun q hq=>h q (by simp [hq]))
theorem Tw.one {f:List (Int×Int)} {t w:Int} {b:Nat} (o:Tw f t):Tw (oneMore f b w) (b*t):=by
  have z:Tw [] 0:=⟨by simp [keys],fun p hp=>by simp at hp,rfl⟩
  have h:=Tw.more (b:=b) (w:=w) z o.nn
  rw [o.tt] at h
  have e:(0:Int)+b*t=b*t:=by lia
  rw [e] at h
  exact h
theorem ways_tot (b:Nat):∀ (ws:List Int) (f:List (Int×Int)) (t:Int),Tw f t→Tw (ws.foldl (fun f w=>oneMore f b w) f) ((b:Int) ^ ws.length*t)
  | [],f,t,o=>by
    have e:(b:Int) ^ ([]:List Int).length*t=t:=by simp
    rw [e];exact o
  | w::ws,f,t,o=>by
    have e:(b:Int) ^ (w::ws).length*t=(b:Int) ^ ws.length*(b*t):=by
      rw [List.length_cons,Int.pow_succ,Int.mul_assoc]
    rw [e]
    exact ways_tot b ws _ _ o.one
theorem ways_tw (b:Nat) (ws:List Int):Tw (waysW b ws) ((b:Int) ^ ws.length):=by
  have z:Tw [(0,1)] 1:=⟨by simp [keys],fun p hp=>by
    have:p=(0,1):=by simpa using hp
    rw [this];decide,rfl⟩
  have h:=ways_tot b ws _ _ z
  rw [Int.mul_one] at h
  exact h
theorem le_tot:∀ {f:List (Int×Int)},(∀ p∈f,0≤p.2)→0≤tot f∧∀ p∈f,p.2≤tot f
  | [],_=>⟨by simp [tot],fun p hp=>by simp at hp⟩
  | q::f,h=>by
    obtain ⟨i1,i2⟩:=le_tot (f:=f) fun p hp=>h p (by simp [hp])
    have hq:=h q (by simp)
    have e:tot (q::f)=q.2+tot f:=by simp [tot]
    rw [e]
    refine ⟨by lia,fun p hp=>?_⟩
    rcases List.mem_cons.mp hp with rfl | hp
    · lia
    · have:=i2 p hp;lia
theorem ways_val {b:Nat} {ws:List Int} (hb:b≤16) (hl:ws.length≤6) (k:Int):0≤(look (waysW b ws) k).getD 0∧(look (waysW b ws) k).getD 0≤16777216:=by
  have o:=ways_tw b ws
  obtain ⟨h0,h1⟩:=le_tot o.nn
  rw [o.tt] at h1
  have hm:b ^ ws.length≤16 ^ 6:=Nat.le_trans (Nat.pow_le_pow_left hb _) (Nat.pow_le_pow_right (by decide) hl)
  have hm':((b:Int) ^ ws.length)≤16777216:=by
    have e:((b ^ ws.length:Nat):Int)=(b:Int) ^ ws.length:=Int.natCast_pow b ws.length
    rw [← e]
    have:(16:Nat) ^ 6=16777216:=by decide
    lia
  cases e:(waysW b ws).find? fun q=>decide (q.1=k) with
  | none =>
    rw [look,e]
    exact ⟨by decide,by decide⟩
  | some q =>
    have hq:=List.mem_of_find?_eq_some e
    rw [look,e]
    exact ⟨o.nn q hq,Int.le_trans (h1 q hq) hm'⟩
theorem look_perm {f g:List (Int×Int)} (h:f.Perm g) (nd:(keys g).Nodup) (k:Int):look f k=look g k:=by
  have ndf:(keys f).Nodup:=(h.map _).nodup_iff.mpr nd
  cases e:g.find? fun q=>decide (q.1=k) with
  | none =>
    have e2:f.find? (fun q=>decide (q.1=k))=none:=by
      rw [List.find?_eq_none] at e⊢
      exact fun x hx=>e x (h.mem_iff.mp hx)
    rw [look,look,e,e2]
  | some q =>
    have hq:=List.mem_of_find?_eq_some e
    have hk:q.1=k:=by simpa using List.find?_some e
    rw [← hk,look_mem nd hq,look_mem ndf (h.mem_iff.mpr hq)]
noncomputable def prodW (b:Nat) (rows:List (List Int)) (t:Int):Int:=rows.foldl (fun m row=>m*(look (waysW b row) t).getD 0) 1
theorem prodW_take {b i:Nat} {rows:List (List Int)} {row:List Int} {t:Int} (h:rows[i]?=some row):prodW b (rows.take (i+1)) t=prodW b (rows.take i) t*(look (waysW b row) t).getD 0:=by
  unfold prodW
  rw [List.take_add_one,h,List.foldl_append]
  rfl
noncomputable def evenL (b:Nat) (rows:List (List Int)) (ks:List Int):List (Int×Int):=(ks.filter fun k=>decide (0<prodW b rows k)).map fun k=>(k,prodW b rows k)
theorem even_keys (b:Nat) (rows:List (List Int)) (ks:List Int):keys (evenL b rows ks)=ks.filter fun k=>decide (0<prodW b rows k):=by
  rw [keys,evenL,List.map_map]
  exact List.map_id' _
theorem even_perm {b:Nat} {rows:List (List Int)} {ks ls:List Int} (h:ks.Perm ls):(evenL b rows ks).Perm (evenL b rows ls):=(h.filter _).map _
theorem even_len (b:Nat) (rows:List (List Int)) (ks:List Int):(evenL b rows ks).length≤ks.length:=by
  rw [evenL,List.length_map]
  exact List.length_filter_le _ _
theorem even_yes {b i:Nat} {rows:List (List Int)} {ks:List Int} {k:Int} (nd:ks.Nodup) (h:ks[i]?=some k) (hp:0<prodW b rows k):evenL b rows (ks.take (i+1))=put (evenL b rows (ks.take i)) k (prodW b rows k):=by
  have hk:k∉keys (evenL b rows (ks.take i)):=fun z=>by
    rw [even_keys] at z
    have z1:=(List.mem_filter.mp z).1
    obtain ⟨j,hj⟩:=List.mem_iff_getElem?.mp z1
    rw [List.getElem?_take] at hj
    split at hj
    · rename_i hji
      have:=(List.getElem?_inj (by have:=(List.getElem?_eq_some_iff.mp hj).1;exact this) nd).mp (hj.trans h.symm)
      lia
    · cases hj
  rw [put_new hk,evenL,List.take_add_one,h,List.filter_append,List.map_append]
  congr 1
  show ([k].filter _).map _=_
  rw [List.filter_cons_of_pos (by simpa using hp)]
  rfl
theorem even_no {b i:Nat} {rows:List (List Int)} {ks:List Int} {k:Int} (h:ks[i]?=some k) (hp:¬ 0<prodW b rows k):evenL b rows (ks.take (i+1))=evenL b rows (ks.take i):=by
  rw [evenL,evenL,List.take_add_one,h,List.filter_append,List.map_append]
  show _++([k].filter _).map _=_
  rw [List.filter_cons_of_neg (by simpa using hp)]
  simp
end Me
namespace Hv
open PySem L2
noncomputable abbrev WaysAt (H:Hp) (b:Nat) (qs:List Addr) (rows:List (List Int)):Prop:=Paired (fun q row=>∃ g,H q=some (.dK (intsD g))∧g.Perm (Me.waysW b row)) qs rows
theorem WaysAt.keep {H H':Hp} {b:Nat} {qs:List Addr} {rows:List (List Int)} (s:Same H H') (h:WaysAt H b qs rows):WaysAt H' b qs rows:=L2.Paired.mapP h fun q row ⟨g,e,p⟩=>⟨g,s _ _ e,p⟩
noncomputable abbrev WaysRd (H:Hp) (b:Nat) (qs:List Addr) (rows:List (List Int)):Prop:=Paired (fun q row=>∃ g,Rd H q (.dK (intsD g))∧g.Perm (Me.waysW b row)) qs rows
noncomputable def spWaysParts:Sp:=fun vs H Q _=>∃ f a c b ps ws,vs=[.ref f]∧FrAt H f a c b ps ws∧∀ (p:Addr) (qs:List Addr) (H':Hp),Same H H'→H p=none→H' p=some (.lst (qs.map V.ref))→WaysAt H' b qs (Ma.cuts ps ws)→Q (.ref p) H'
noncomputable def spWaysWith:Sp:=fun vs H Q _=>∃ (p:Addr) (qs:List Addr) (b:Nat) (rows:List (List Int)) (t:Int),vs=[.ref p,.int t]∧H p=some (.lst (qs.map V.ref))∧WaysRd H b qs rows∧b≤16∧(∀ row∈rows,(∀ x∈row,-9≤x∧x≤9)∧row.length≤6)∧
  Q (.int (Me.prodW b rows t)) H
section
variable {P:Program} {w:World} {K:PySem.W.Frag} {mg:Str→Option Value} {base:Heap}
theorem scWaysParts:FnScope ["frame"] ["frame"] (defScope sWaysParts):=⟨rfl,rfl,rfl,by decide +kernel,rfl,by decide +kernel,by decide +kernel⟩
theorem ok_waysparts {f:Addr} {fd:FuncData} (F:Fun K "ways_of_parts" "ways_of_parts" sWaysParts f fd) (T:Txt mg) (DC:Def P w K mg base 1 "cut_by_parts" ["frame","row"] spCut) (DV:Def P w K mg base 2 "ways_of_weights" ["base","weights"] spWaysW) :
    FnOk P w K mg base CX0 3 f fd ["frame"] spWaysParts:=by
  refine F.ok scWaysParts (fun vs H Q E h=>?_) (fun cdv A outer s H vs Q E hr h=>?_)
  · obtain ⟨g,a,c,b,ps,ws,rfl,_⟩:=h;rfl
  · obtain ⟨g,a,c,b,ps,ws,rfl,G,k⟩:=h
    refine ⟨_,pss_one (ps_ret (pe_cmp1 (defScope sWaysParts) ["frame"] ["frame"] [0] rfl (pi_list (pe_fn DC (hr.mono (by decide)) (by rfl) (pa_cons (pv 0) (pa_cons (ixt (pv 0) pe_int) pa_nil))))
      (fun cl C s H fp=>pf_nil) (fun cl C s H fp=>pe_fn DV hr (by rfl) (pa_cons (ixtK K rfl (pv 1) pe_int) (pa_cons (pv 0) pa_nil))) (by decide +kernel))),?_⟩
    refine ⟨_,rfl,_,rfl,_,_,_,_,rfl,rfl,SqT.of G.tp,rfl,g,a,c,b,ps,ws,c,ws,rfl,G,G.hw,fun p qs H2 s2 hp rows=>?_⟩
    have G2:=G.keep s2
    have hql:qs.length=ps.length:=by
      have e:qs.length=(Ma.cuts ps ws).length:=rows.length
      rw [e,Ma.cuts_len]
    have l4:=G.ok.l4
    refine ⟨p,rfl,⟨_,SqL.of hp⟩,comp_list (K:=K) (a:=p) (xs:=qs.map V.ref) (fun i ys H'=>∃ ts,ys=ts.map V.ref∧ts.length=i∧Same H2 H'∧WaysAt H' b ts ((Ma.cuts ps ws).take i))
      ⟨[],rfl,rfl,Same.refl _,.nil⟩ (fun i ys H' _ h=>by obtain ⟨_,_,_,s',_⟩:=h;exact SqL.of (s' _ _ hp)) ?_ ?_⟩
    · rintro i x ys H' hx ⟨ts,rfl,htl,s',wa⟩
      have hil:i<qs.length:=by have:=(List.getElem?_eq_some_iff.mp hx).1;simpa using this
      obtain ⟨q,hq,rfl⟩:∃ q:Addr,qs[i]?=some q∧x=.ref q:=by
        rw [List.getElem?_map] at hx
        cases e:qs[i]? with
        | none=>rw [e] at hx;cases hx
        | some d=>rw [e] at hx;exact ⟨d,rfl,(Option.some.inj hx).symm⟩
      obtain ⟨row,hj,hrow⟩:=rows_get rows hq
      refine ⟨szl (by rw [List.length_map];lia),_,rfl,_,_,_,_,rfl,rfl,SqT.of (G2.keep s').tp,rfl,_,rfl,b,q,row,rfl,s' _ _ hrow,G.ok.b16,fun x hx=>G.ok.wr x (Ma.cuts_mem (List.mem_of_getElem? hj) x hx),Ma.cuts_short (fun p hp=>(G.ok.pr p hp).2) (List.mem_of_getElem? hj),fun p' H3 gg np s3 hp3 hg=>⟨ts++[p'],by simp,by simp [htl],s'.trans s3,?_⟩⟩
      rw [List.take_add_one,hj]
      exact Paired.snoc (wa.keep s3) ⟨gg,hp3,hg⟩
    · rintro ys H' ⟨ts,rfl,htl,s',wa⟩ l hl
      have e:(qs.map V.ref).length=(Ma.cuts ps ws).length:=by rw [List.length_map,Ma.cuts_len];exact hql
      rw [e,List.take_length] at wa
      have sl:=same_upd (o:=.lst (ts.map V.ref)) hl
      exact k l ts _ (s2.trans (s'.trans sl)) (s2.free (s'.free hl)) upd_same (wa.keep sl)
theorem scWaysWith:FnScope ["ways_by_part","total","many","ways"] ["ways_by_part","total"] (defScope sWaysWith):=⟨rfl,rfl,rfl,by decide +kernel,rfl,by decide +kernel,by decide +kernel⟩
theorem ok_wayswith {f:Addr} {fd:FuncData} (F:Fun K "ways_with" "ways_with" sWaysWith f fd):FnOk P w K mg base CX0 1 f fd ["ways_by_part","total"] spWaysWith:=by
  refine F.ok scWaysWith (fun vs H Q E h=>?_) (fun cdv A outer s H vs Q E hr h=>?_)
  · obtain ⟨p,qs,b,rows,t,rfl,_⟩:=h;rfl
  · obtain ⟨p,qs,b,rows,t,rfl,hp,wa,hb,hrs,k⟩:=h
    have nd:=scWaysWith.nd
    have hu:=hu_of hr
    refine ⟨_,pss_cons (ps_set (i:=2) nd rfl (Or.inl rfl) pe_int)
      (pss_cons (ps_for PassesOwn.never rfl (pi_list (pv 0)) (pg_name (i:=3) nd rfl (Or.inl rfl))
        (pss_one (ps_set (i:=2) nd rfl (Or.inl rfl) (pe_op op_mul (pv 2) (pe_dget2 hu (pv 3) (pv 1) pe_int ⟨rfl,rfl,rfl,rfl⟩)))))
      (pss_one (ps_ret (pv 2)))),?_⟩
    refine ⟨_,rfl,p,rfl,⟨_,SqL.of hp⟩,for_list (K:=K) (a:=p) (xs:=qs.map V.ref) (fun i σ H'=>∃ v3,σ=[some (.ref p),some (.int t),some (.int (Me.prodW b (rows.take i) t)),v3]∧H=H')
      ⟨none,rfl,rfl⟩ (fun i σ H' _ h=>by obtain ⟨_,_,e⟩:=h;rw [← e];exact SqL.of hp) ?_ ?_⟩
    · rintro i x σ H' hx ⟨v3,rfl,rfl⟩
      obtain ⟨q,hq,rfl⟩:∃ q:Addr,qs[i]?=some q∧x=.ref q:=by
        rw [List.getElem?_map] at hx
        cases e:qs[i]? with
        | none=>rw [e] at hx;cases hx
        | some d=>rw [e] at hx;exact ⟨d,rfl,(Option.some.inj hx).symm⟩
      obtain ⟨row,hj,g,hg,perm⟩:=rows_get wa hq
      obtain ⟨hw,hl⟩:=hrs row (List.mem_of_getElem? hj)
      have wok:=Me.ways_ok' (b:=b) hw hb
      obtain ⟨v0,v1⟩:=Me.ways_val (b:=b) hb hl t
      have elk:=Me.look_perm perm wok.nd t
      have cm:CMul (Me.prodW b (rows.take i) t) ((Me.look g t).getD 0):=by rw [elk];exact .inr ⟨by lia,by lia⟩
      refine ⟨_,rfl,_,rfl,q,rfl,.inl ⟨_,hg⟩,_,rfl,_,dget_ints hg,Me.prodW b (rows.take i) t,(Me.look g t).getD 0,rfl,getD_int _,cm,some (.ref q),?_,rfl⟩
      rw [Me.prodW_take hj,← elk]
      rfl
    · rintro σ H' ⟨v3,rfl,rfl⟩
      have e:(qs.map V.ref).length=rows.length:=by rw [List.length_map];exact wa.length
      rw [e,List.take_length]
      exact ⟨_,rfl,k⟩
end
end Hv
namespace Hv
open PySem L2
noncomputable def spEvenBy:Sp:=fun vs H Q _=>∃ f a c b ps ws,vs=[.ref f]∧FrAt H f a c b ps ws∧∀ (p:Addr) (g:List (Int×Int)) (H':Hp),H p=none→Same H H'→H' p=some (.dK (intsD g))→
  (∃ row,(Ma.cuts ps ws)[0]?=some row∧g.Perm (Me.evenL b (Ma.cuts ps ws) (Me.keys (Me.waysW b row))))→Q (.ref p) H'
theorem rows_ok {H:Hp} {f a c:Addr} {b:Nat} {ps:List Nat} {ws:List Int} (G:FrAt H f a c b ps ws):∀ row∈Ma.cuts ps ws,(∀ x∈row,-9≤x∧x≤9)∧row.length≤6 :=
  fun row hr=>⟨fun x hx=>G.ok.wr x (Ma.cuts_mem hr x hx),Ma.cuts_short (fun p hp=>(G.ok.pr p hp).2) hr⟩
section
variable {P:Program} {w:World} {K:PySem.W.Frag} {mg:Str→Option Value} {base:Heap}
theorem scEvenBy:FnScope ["frame","ways_by_part","even","total","many"] ["frame"] (defScope sEvenBy):=⟨rfl,rfl,rfl,by decide +kernel,rfl,by decide +kernel,by decide +kernel⟩
theorem ok_evenby {f:Addr} {fd:FuncData} (F:Fun K "even_by_sums" "even_by_sums" sEvenBy f fd) (D5:Def P w K mg base 5 "need_frame" ["thing"] spNeedFrame) (DP:Def P w K mg base 3 "ways_of_parts" ["frame"] spWaysParts)
    (DW:Def P w K mg base 1 "ways_with" ["ways_by_part","total"] spWaysWith):FnOk P w K mg base CX0 6 f fd ["frame"] spEvenBy:=by
  refine F.ok scEvenBy (fun vs H Q E h=>?_) (fun cdv A outer s H vs Q E hr h=>?_)
  · obtain ⟨g,a,c,b,ps,ws,rfl,_⟩:=h;rfl
  · obtain ⟨g,a,c,b,ps,ws,rfl,G,k⟩:=h
    have nd:=scEvenBy.nd
    have hu:=hu_of hr
    refine ⟨_,pss_cons (ps_expr (pe_fn D5 hr (by rfl) (pa_cons (pv 0) pa_nil)))
      (pss_cons (ps_set (i:=1) nd rfl (Or.inl rfl) (pe_fn DP (hr.mono (by decide)) (by rfl) (pa_cons (pv 0) pa_nil)))
      (pss_cons (ps_set (i:=2) nd rfl (Or.inl rfl) pe_dnewK)
      (pss_cons (ps_for PassesOwn.never rfl (pi_dict (ixl (pv 1) pe_int)) (pg_name (i:=3) nd rfl (Or.inl rfl))
        (pss_cons (ps_set (i:=4) nd rfl (Or.inl rfl) (pe_fn DW (hr.mono (by decide)) (by rfl) (pa_cons (pv 1) (pa_cons (pv 3) pa_nil))))
        (pss_one (ps_if (pt_cmpR op_gt (pv 4) pe_int (nomark _)) (pss_one (ps_dput hu (pv 2) (pv 3) (pv 4) rfl)) pss_nil))))
      (pss_thaw (pss_one (ps_ret (pv 2))))))),?_⟩
    refine ⟨_,rfl,g,a,c,b,ps,ws,rfl,G,fun H1 s1=>?_⟩
    have G1:=G.keep s1
    refine ⟨_,rfl,g,a,c,b,ps,ws,rfl,G1,fun p qs H2 s2 hp hp2 wa=>?_⟩
    intro l hl
    -- the first part's
    obtain ⟨row,hrow⟩:∃ row,(Ma.cuts ps ws)[0]?=some row:=⟨(Ma.cuts ps ws)[0]'(by rw [Ma.cuts_len];have:=G.ok.l2;lia),by simp⟩
    obtain ⟨q,hq⟩:∃ q,qs[0]?=some q:=⟨qs[0]'(by have e:qs.length=(Ma.cuts ps ws).length:=wa.length;rw [e,Ma.cuts_len];have:=G.ok.l2;lia),by simp⟩
    obtain ⟨row',hrow',g0,hg0,perm⟩:=rows_get wa hq
    have er:row'=row:=by rw [hrow] at hrow';exact (Option.some.inj hrow').symm
    subst er
    obtain ⟨hw0,hl0⟩:=rows_ok G row' (List.mem_of_getElem? hrow)
    have wok:=Me.ways_ok' (b:=b) hw0 G.ok.b16
    have wln:=Me.Ok.len (m:=135*row'.length) (by push_cast at wok⊢;exact wok)
    have nd0:(Me.keys g0).Nodup:=(perm.map _).nodup_iff.mpr wok.nd
    have hgl:g0.length≤2000:=by rw [perm.length_eq];lia
    have s3:Same H2 (upd H2 l (.dK [])):=same_upd hl
    have hql:q≠l:=ne_of_none hg0 hl
    have hpl:p≠l:=ne_of_none hp2 hl
    have hqp:q≠p:=ne_of hg0 hp2 (by intro z;cases z)
    have l3:(upd H2 l (.dK [])) l=some (.dK (intsD [])):=upd_same
    generalize upd H2 l (.dK [])=H3 at s3 l3⊢
    have q3:=s3 _ _ hg0
    have p3:=s3 _ _ hp2
    have at0:atI (qs.map V.ref) 0=some (.ref q):=atI_nat (j:=0) (by rw [List.getElem?_map,hq];rfl)
    refine ⟨_,rfl,p,_,0,.ref q,rfl,rfl,SqL.of p3,at0,q,intsD g0,rfl,q3,fun o=>for_dict (fun i σ H'=>∃ v3 v4,σ=[some (.ref g),some (.ref p),some (.ref l),v3,v4]∧H' q=some (.frz o (.dK (intsD g0)))∧(∀ x ob,x≠q→x≠l→H3 x=some ob→H' x=some ob)∧H' l=some (.dK (intsD (Me.evenL b (Ma.cuts ps ws) ((Me.keys g0).take i)))))
      ⟨none,none,rfl,upd_same,fun x ob hx _ e=>by rw [upd_ne hx];exact e,by rw [upd_ne hql.symm,l3];rfl⟩ (fun i σ H' _ h=>by obtain ⟨_,_,_,z,_⟩:=h;exact z) ?_ ?_⟩
    · rintro i kk v σ H' hk ⟨v3,v4,rfl,fq,kp,hl'⟩
      obtain ⟨pr,hpr,rfl,rfl⟩:=ints_at hk
      have hki:(Me.keys g0)[i]?=some pr.1:=by rw [Me.keys,List.getElem?_map,hpr];rfl
      have p':=kp p _ hqp.symm hpl p3
      have wr:WaysRd H' b qs (Ma.cuts ps ws):=L2.Paired.mapP wa fun q1 row1 ⟨g1,e1,pm1⟩=>by
        by_cases e:q1=q
        · subst e
          have eg:intsD g1=intsD g0:=by rw [e1] at hg0;injection hg0 with hg0;injection hg0
          exact ⟨g1,.inr ⟨o,by rw [eg];exact fq⟩,pm1⟩
        · exact ⟨g1,.inl (kp q1 _ e (ne_of_none e1 hl) (s3 _ _ e1)),pm1⟩
      have hlen:=Me.even_len b (Ma.cuts ps ws) ((Me.keys g0).take i)
      have hlen2:((Me.keys g0).take i).length≤2000:=by
        rw [List.length_take,Me.keys,List.length_map];lia
      refine ⟨_,rfl,_,rfl,p,qs,b,Ma.cuts ps ws,pr.1,rfl,p',wr,G.ok.b16,rows_ok G,?_⟩
      refine ⟨_,rfl,_,_,rfl,rfl,_,rfl,ite2 (fun h=>?_) (fun h=>?_)⟩
      · have h':0<Me.prodW b (Ma.cuts ps ws) pr.1:=of_decide_eq_true h
        refine ⟨_,rfl,_,rfl,_,rfl,l,_,rfl,dput_ints hl' (by lia),_,_,rfl,?_,fun x ob h1 h2 e=>?_,?_⟩
        · rw [upd_ne hql];exact fq
        · rw [upd_ne h2];exact kp x ob h1 h2 e
        · rw [upd_same,Me.even_yes nd0 hki h']
      · have h':¬ 0<Me.prodW b (Ma.cuts ps ws) pr.1:=fun z=>h (decide_eq_true z)
        refine ⟨_,_,rfl,fq,kp,?_⟩
        rw [Me.even_no hki h']
        exact hl'
    · rintro σ H' ⟨v3,v4,rfl,fq,kp,hl'⟩
      have el:(intsD g0).length=(Me.keys g0).length:=by rw [intsD,Me.keys,List.length_map,List.length_map]
      rw [el,List.take_length] at hl'
      have S3:=s1.trans (s2.trans s3)
      have lH:H l=none:=s1.free (s2.free hl)
      refine ⟨q,o,intsD g0,fq,(fun o' u z=>?_),_,rfl,k l _ _ lH (fun x ob e=>?_) (by rw [upd_ne hql.symm];exact hl') ⟨row',hrow,Me.even_perm (perm.map _)⟩⟩
      · have z':H q=some (.frz o' u):=z
        have:=S3 _ _ z'
        rw [q3] at this;cases this
      · by_cases hx:x=q
        · have:=S3 _ _ e
          rw [hx] at this
          rw [hx,upd_same,← this,q3]
        · rw [upd_ne hx];exact kp x ob hx (ne_of_none e lH) (S3 _ _ e)
end
end Hv
namespace Me
noncomputable abbrev gv (f:List (Int×Int)) (k:Int):Int:=(look f k).getD 0
theorem look_add {k n j:Int}:∀ {f:List (Int×Int)},(keys f).Nodup→gv (addTo f k n) j=gv f j+if k=j then n else 0
  | [],_=>by
    by_cases e:k=j <;> simp [gv,addTo,put,look,e]
  | (a,x)::f,nd=>by
    have nd1:a∉keys f:=(List.nodup_cons.mp nd).1
    have nd2:(keys f).Nodup:=(List.nodup_cons.mp nd).2
    by_cases e:a=k
    · subst e
      rw [add_hit nd1]
      by_cases h:a=j
      · subst h
        rw [gv,gv,look_hit,look_hit,if_pos rfl]
        rfl
      · rw [gv,gv,look_miss h,look_miss h,if_neg h]
        lia
    · rw [add_miss e]
      by_cases h:a=j
      · subst h
        rw [gv,gv,look_hit,look_hit,if_neg (fun z=>e z.symm)]
        show x=x+0
        lia
      · have ih:=look_add (k:=k) (n:=n) (j:=j) nd2
        rw [gv,gv,look_miss h,look_miss h]
        exact ih
theorem gv_add {f:List (Int×Int)} {k n j:Int} (nd:(keys f).Nodup) (hn:0≤n):gv f j≤gv (addTo f k n) j:=by
  rw [look_add nd]
  split <;> lia
theorem figs_nd {p:Int×Int} {w:Int} {acc:List (Int×Int)} (nd:(keys acc).Nodup):∀ n:Nat,(keys (figs p w n acc)).Nodup
  | 0=>nd
  | n+1=>by rw [figs_succ];exact add_nd (figs_nd nd n)
theorem figs_ge {p:Int×Int} {w j:Int} {acc:List (Int×Int)} (nd:(keys acc).Nodup) (hp:0≤p.2):∀ n:Nat,gv acc j≤gv (figs p w n acc) j
  | 0=>Int.le_refl _
  | n+1=>by
    rw [figs_succ]
    exact Int.le_trans (figs_ge nd hp n) (gv_add (figs_nd nd n) hp)
theorem figs_own {p:Int×Int} {w:Int} {acc:List (Int×Int)} (nd:(keys acc).Nodup) (hp:0≤p.2):∀ n:Nat,gv acc p.1+p.2≤gv (figs p w (n+1) acc) p.1
  | 0=>by
    rw [figs_succ]
    have e:p.1+((0:Nat):Int)*w=p.1:=by simp
    rw [e,look_add (figs_nd nd 0),if_pos rfl]
    exact Int.le_refl _
  | n+1=>by
    rw [figs_succ]
    exact Int.le_trans (figs_own nd hp n) (gv_add (figs_nd nd (n+1)) hp)
theorem more_ge {b:Nat} {w j:Int}:∀ {f acc:List (Int×Int)},(keys acc).Nodup→(∀ p∈f,0≤p.2)→gv acc j≤gv (f.foldl (fun acc p=>figs p w b acc) acc) j
  | [],_,_,_=>Int.le_refl _
  | p::f,acc,nd,h=>by
    rw [List.foldl_cons]
    exact Int.le_trans (figs_ge nd (h p (by simp)) b) (more_ge (figs_nd nd b) fun q hq=>h q (by simp [hq]))
theorem more_own {b:Nat} {w:Int} {p:Int×Int}:∀ {f acc:List (Int×Int)},(keys acc).Nodup→(∀ p∈f,0≤p.2)→p∈f→gv acc p.1+p.2≤gv (f.foldl (fun acc p=>figs p w (b+1) acc) acc) p.1
  | [],_,_,_,hp=>by simp at hp
  | q::f,acc,nd,h,hp=>by
    rw [List.foldl_cons]
    rcases List.mem_cons.mp hp with rfl | hp
    · exact Int.le_trans (figs_own nd (h p (by simp)) b) (more_ge (figs_nd nd (b+1)) fun q hq=>h q (by simp [hq]))
    · have h1:=figs_ge (w:=w) (j:=p.1) nd (h q (by simp)) (b+1)
      have h2:=more_own (w:=w) (b:=b) (figs_nd (p:=q) (w:=w) nd (b+1)) (fun q hq=>h q (by simp [hq])) hp
      lia
theorem gv_mem {f:List (Int×Int)} {k:Int} (h:1≤gv f k):(k,gv f k)∈f:=by
  cases e:f.find? fun q=>decide (q.1=k) with
  | none =>
    have z:gv f k=0:=by rw [gv,look,e];rfl
    lia
  | some q =>
    have hq:=List.mem_of_find?_eq_some e
    have hk:q.1=k:=by simpa using List.find?_some e
    have z:gv f k=q.2:=by rw [gv,look,e];rfl
    rw [z,← hk]
    exact hq
theorem zero_ways {b:Nat}:∀ (ws:List Int) (f:List (Int×Int)) (t:Int),Tw f t→1≤gv f 0→1≤gv (ws.foldl (fun f w=>oneMore f (b+1) w) f) 0
  | [],_,_,_,h=>h
  | w::ws,f,t,o,h=>by
    rw [List.foldl_cons]
    refine zero_ways ws _ _ o.one ?_
    have:=more_own (w:=w) (b:=b) (acc:=[]) (by simp [keys]) o.nn (gv_mem h)
    have e:gv [] 0=0:=rfl
    unfold oneMore
    have h2:gv f 0≤gv (f.foldl (fun acc p=>figs p w (b+1) acc) []) 0:=by
      have:=this
      simp only [e] at this
      lia
    lia
theorem ways_zero {b:Nat} (hb:1≤b) (ws:List Int):1≤gv (waysW b ws) 0:=by
  obtain ⟨c,rfl⟩:∃ c,b=c+1:=⟨b - 1,by lia⟩
  exact zero_ways ws [(0,1)] 1 ⟨by simp [keys],fun p hp=>by
    have:p=(0,1):=by simpa using hp
    rw [this];decide,rfl⟩ (by decide)
theorem ways_gv (b:Nat) (row:List Int) (t:Int):0≤(look (waysW b row) t).getD 0:=by
  have o:=ways_tw b row
  cases e:(waysW b row).find? fun q=>decide (q.1=t) with
  | none=>rw [look,e];exact Int.le_refl _
  | some q=>rw [look,e];exact o.nn q (List.mem_of_find?_eq_some e)
theorem prod_nn {b:Nat} {t:Int}:∀ (rows:List (List Int)) (m:Int),0≤m→0≤rows.foldl (fun m row=>m*(look (waysW b row) t).getD 0) m
  | [],_,h=>h
  | row::rows,m,h=>by
    rw [List.foldl_cons]
    exact prod_nn rows _ (Int.mul_nonneg h (ways_gv b row t))
theorem prod_zero {b:Nat} {t:Int}:∀ (rows:List (List Int)),rows.foldl (fun m row=>m*(look (waysW b row) t).getD 0) 0=0
  | []=>rfl
  | row::rows=>by
    rw [List.foldl_cons,Int.zero_mul]
    exact prod_zero rows
theorem look_none {f:List (Int×Int)} {t:Int} (h:t∉keys f):look f t=none:=by
  cases e:f.find? fun q=>decide (q.1=t) with
  | none=>rw [look,e];rfl
  | some q =>
    exfalso
    exact h (List.mem_map.mpr ⟨q,List.mem_of_find?_eq_some e,by simpa using List.find?_some e⟩)
theorem prodW_off {b:Nat} {rows:List (List Int)} {row:List Int} {t:Int} (h:rows[0]?=some row) (ht:t∉keys (waysW b row)):prodW b rows t=0:=by
  cases rows with
  | nil=>cases h
  | cons r rows =>
    have e:r=row:=Option.some.inj h
    subst e
    unfold prodW
    rw [List.foldl_cons,look_none ht]
    exact prod_zero rows
theorem sum_perm {l m:List Int} (h:l.Perm m):l.sum=m.sum:=by
  induction h with
  | nil=>rfl
  | cons x _ ih=>rw [List.sum_cons,List.sum_cons,ih]
  | swap x y l=>simp only [List.sum_cons];lia
  | trans _ _ a b=>exact a.trans b
theorem tot_perm {f g:List (Int×Int)} (h:f.Perm g):tot f=tot g:=sum_perm (h.map _)
end Me
namespace Mq
noncomputable def sm (f:Int→Int) (a:Int):Nat→Int
  | 0=>0
  | n+1=>sm f a n+f (a+n)
theorem sm_add (f:Int→Int) (a:Int) (n:Nat):∀ m:Nat,sm f a (n+m)=sm f a n+sm f (a+n) m
  | 0=>by simp [sm]
  | m+1=>by
    rw [← Nat.add_assoc,sm,sm,sm_add f a n m]
    have e:a+((n+m:Nat):Int)=a+n+m:=by push_cast;lia
    rw [e]
    lia
theorem sm_zero {f:Int→Int} {a:Int}:∀ {n:Nat},(∀ t,a≤t→t<a+n→f t=0)→sm f a n=0
  | 0,_=>rfl
  | n+1,h=>by
    rw [sm,sm_zero (n:=n) fun t h1 h2=>h t h1 (by push_cast;lia),h (a+n) (by lia) (by push_cast;lia)]
    rfl
theorem sm_congr {f g:Int→Int} {a:Int}:∀ {n:Nat},(∀ t,a≤t→t<a+n→f t=g t)→sm f a n=sm g a n
  | 0,_=>rfl
  | n+1,h=>by
    rw [sm,sm,sm_congr (n:=n) fun t h1 h2=>h t h1 (by push_cast;lia),h (a+n) (by lia) (by push_cast;lia)]
theorem sm_end {f:Int→Int} {a h:Int} {n m:Nat} (hf:∀ t,h<t→f t=0) (hn:h<a+n) (hm:h<a+m):sm f a n=sm f a m:=by
  have key:∀ {n m:Nat},n≤m→h<a+n→sm f a n=sm f a m:=fun {n m} hle hn=>by
    obtain ⟨k,rfl⟩:=Nat.exists_eq_add_of_le hle
    rw [sm_add,sm_zero (f:=f) (a:=a+n) (n:=k) fun t h1 _=>hf t (by lia)]
    lia
  rcases Nat.le_total n m with z | z
  · exact key z hn
  · exact (key z hm).symm
theorem sm_part {g:Int→Int} {a b:Int} {n m:Nat} (h1:a≤b) (h2:b+m≤a+n) (z1:∀ t,a≤t→t<b→g t=0) (z2:∀ t,b+m≤t→t<a+n→g t=0):sm g a n=sm g b m:=by
  obtain ⟨k,rfl⟩:∃ k:Nat,b=a+k:=⟨(b - a).toNat,by lia⟩
  obtain ⟨r,rfl⟩:∃ r:Nat,n=k+(m+r):=⟨n - k - m,by lia⟩
  rw [sm_add,sm_add,sm_zero (f:=g) (a:=a) (n:=k) fun t h1 h2=>z1 t h1 h2,sm_zero (f:=g) (a:=a+k+m) (n:=r) fun t h1 h2=>z2 t (by lia) (by push_cast;lia)]
  lia
noncomputable def pr (fs:List (Int→Int)) (a:Int) (n:Nat):Int:=fs.foldl (fun m f=>m*sm f a n) 1
theorem fold_zero {fs:List (Int→Int)} {a:Int} {n:Nat}:fs.foldl (fun m f=>m*sm f a n) 0=0:=by
  induction fs with
  | nil=>rfl
  | cons f r ih=>simpa using ih
theorem pr_zero {fs:List (Int→Int)} {a:Int} {n:Nat} {f:Int→Int} (hf:f∈fs) (h:sm f a n=0):pr fs a n=0:=by
  have key:∀ (fs:List (Int→Int)) (c:Int),f∈fs→fs.foldl (fun m f=>m*sm f a n) c=0:=fun fs=>by
    induction fs with
    | nil=>intro c h;simp at h
    | cons q r ih =>
      intro c hq
      rcases List.mem_cons.mp hq with rfl | hq
      · rw [List.foldl_cons,h,Int.mul_zero];exact fold_zero
      · rw [List.foldl_cons];exact ih _ hq
  exact key fs 1 hf
theorem pr_congr {fs:List (Int→Int)} {a b:Int} {n m:Nat} (h:∀ f∈fs,sm f a n=sm f b m):pr fs a n=pr fs b m:=by
  have key:∀ (fs:List (Int→Int)) (c:Int),(∀ f∈fs,sm f a n=sm f b m)→fs.foldl (fun m f=>m*sm f a n) c=fs.foldl (fun q f=>q*sm f b m) c:=fun fs=>by
    induction fs with
    | nil=>intro c _;rfl
    | cons q r ih =>
      intro c hq
      rw [List.foldl_cons,List.foldl_cons,hq q (by simp)]
      exact ih _ fun f hf=>hq f (by simp [hf])
  exact key fs 1 h
noncomputable def gat (fs:List (Int→Int)) (d:Nat) (t:Int):Int:=pr fs t (d+1) - pr fs (t+1) d
theorem gat_cut {fs:List (Int→Int)} {d r:Nat} {t low high:Int} (hs:∀ f∈fs,∀ u,high<u→f u=0) (ht:low≤t) (hr:(r:Int)=d∨(high - low≤r∧high - low≤d)):gat fs d t=gat fs r t:=by
  rcases hr with hr | ⟨h1,h2⟩
  · rw [show d=r by lia]
  · unfold gat
    rw [pr_congr (fs:=fs) (a:=t) (b:=t) (n:=d+1) (m:=r+1) fun f hf=>sm_end (h:=high) (hs f hf) (by push_cast;lia) (by push_cast;lia),
      pr_congr (fs:=fs) (a:=t+1) (b:=t+1) (n:=d) (m:=r) fun f hf=>sm_end (h:=high) (hs f hf) (by push_cast;lia) (by push_cast;lia)]
theorem gat_up {fs:List (Int→Int)} {d:Nat} {t last:Int} {f:Int→Int} (hf:f∈fs) (h:∀ u,last<u→f u=0) (ht:last<t):gat fs d t=0:=by
  unfold gat
  rw [pr_zero hf (sm_zero fun u h1 _=>h u (by lia)),pr_zero hf (sm_zero fun u h1 _=>h u (by lia))]
  rfl
theorem gat_dn {fs:List (Int→Int)} {d:Nat} {t l:Int} {f:Int→Int} (hf:f∈fs) (h:∀ u,u<l→f u=0) (ht:t+d<l):gat fs d t=0:=by
  unfold gat
  rw [pr_zero hf (sm_zero fun u _ h2=>h u (by push_cast at h2;lia)),pr_zero hf (sm_zero fun u _ h2=>h u (by push_cast at h2;lia))]
  rfl
theorem near_eq {fs:List (Int→Int)} {d:Nat} {low high maxl ming:Int} {fl fg:Int→Int} (hs:∀ f∈fs,∀ u,high<u→f u=0) (hl:fl∈fs) (hl':∀ u,u<maxl→fl u=0) (hg:fg∈fs) (hg':∀ u,ming<u→fg u=0)
    (o1:low≤maxl) (o2:ming≤high) (o3:low≤high) (o4:low≤ming) (o5:maxl≤high) {r:Nat} (hr:(r:Int)=if high - low<d then high - low else d) {first:Int} (hfirst:first=if maxl - r>low then maxl - r else low) :
    sm (gat fs d) low (high - low+1).toNat=sm (gat fs r) first (ming - first+1).toNat:=by
  have hr2:(r:Int)=d∨(high - low≤r∧high - low≤d):=by split at hr <;> lia
  have e:sm (gat fs d) low (high - low+1).toNat=sm (gat fs r) low (high - low+1).toNat:=sm_congr fun t h1 _=>gat_cut hs h1 hr2
  rw [e]
  have up:∀ t,ming<t→gat fs r t=0:=fun t h=>gat_up hg hg' h
  have dn:∀ t,t+r<maxl→gat fs r t=0:=fun t h=>gat_dn hl hl' h
  have f1:low≤first:=by rw [hfirst];split <;> lia
  have f2:∀ t,low≤t→t<first→t+r<maxl:=fun t a b=>by rw [hfirst] at b;split at b <;> lia
  by_cases hc:first≤ming+1
  · exact sm_part f1 (by lia) (fun t a b=>dn t (f2 t a b)) fun t a b=>up t (by lia)
  · rw [sm_zero (f:=gat fs r) (a:=low) fun t a b=>?_,sm_zero (f:=gat fs r) (a:=first) fun t a b=>up t (by lia)]
    by_cases q:t<first
    · exact dn t (f2 t a q)
    · exact up t (by lia)
end Mq
namespace Me
noncomputable def fw (b:Nat) (row:List Int):Int→Int:=fun t=>gv (waysW b row) t
noncomputable def fws (b:Nat) (rows:List (List Int)):List (Int→Int):=rows.map (fw b)
noncomputable def loW (b:Nat) (row:List Int):Int:=Ma.minL (keys (waysW b row))
noncomputable def hiW (b:Nat) (row:List Int):Int:=Ma.maxL (keys (waysW b row))
noncomputable def los (b:Nat) (rows:List (List Int)):List Int:=rows.map (loW b)
noncomputable def his (b:Nat) (rows:List (List Int)):List Int:=rows.map (hiW b)
noncomputable def nearV (b:Nat) (rows:List (List Int)) (d:Nat):Int:=Mq.sm (Mq.gat (fws b rows) d) (Ma.minL (los b rows)) (Ma.maxL (his b rows) - Ma.minL (los b rows)+1).toNat
theorem keys_ne {b:Nat} (hb:1≤b) (row:List Int):0<(keys (waysW b row)).length:=by
  have h:=gv_mem (ways_zero hb row)
  have:(0:Int)∈keys (waysW b row):=List.mem_map.mpr ⟨_,h,rfl⟩
  exact List.length_pos_of_mem this
theorem sm_bd {f:Int→Int} (h:∀ t,0≤f t∧f t≤16777216) (a:Int):∀ n:Nat,0≤Mq.sm f a n∧Mq.sm f a n≤16777216*n
  | 0=>⟨Int.le_refl _,Int.le_refl _⟩
  | n+1=>by
    have ih:=sm_bd h a n
    have:=h (a+n)
    simp only [Mq.sm]
    push_cast
    lia
end Me
namespace Me
structure DOk (g:List (Int×Int)):Prop where
  ne:0<(keys g).length
  nd:(keys g).Nodup
  bd:∀ k∈keys g,-810≤k∧k≤810
  val:∀ t,0≤gv g t∧gv g t≤16777216
noncomputable def losG (gs:List (List (Int×Int))):List Int:=gs.map fun g=>Ma.minL (keys g)
noncomputable def hisG (gs:List (List (Int×Int))):List Int:=gs.map fun g=>Ma.maxL (keys g)
noncomputable def fG (gs:List (List (Int×Int))):List (Int→Int):=gs.map fun g t=>gv g t
noncomputable def nearG (gs:List (List (Int×Int))) (d:Nat):Int:=Mq.sm (Mq.gat (fG gs) d) (Ma.minL (losG gs)) (Ma.maxL (hisG gs) - Ma.minL (losG gs)+1).toNat
theorem gv_dn {g:List (Int×Int)} (o:DOk g) {t:Int} (h:t<Ma.minL (keys g)):gv g t=0:=by
  have n:t∉keys g:=fun z=>by
    have:=(Ma.minL_spec _ o.ne).2 t z
    lia
  unfold gv
  rw [look_none n]
  rfl
theorem gv_up {g:List (Int×Int)} (o:DOk g) {t:Int} (h:Ma.maxL (keys g)<t):gv g t=0:=by
  have n:t∉keys g:=fun z=>by
    have:=(Ma.maxL_spec _ o.ne).2 t z
    lia
  unfold gv
  rw [look_none n]
  rfl
theorem lohi {g:List (Int×Int)} (o:DOk g) : -810≤Ma.minL (keys g)∧Ma.minL (keys g)≤Ma.maxL (keys g)∧Ma.maxL (keys g)≤810:=by
  have h1:=o.bd _ (Ma.minL_spec _ o.ne).1
  have h2:=o.bd _ (Ma.maxL_spec _ o.ne).1
  have h3:=(Ma.minL_spec _ o.ne).2 _ (Ma.maxL_spec _ o.ne).1
  lia
theorem boundsG {gs:List (List (Int×Int))} (hne:0<gs.length) (hg:∀ g∈gs,DOk g) :
    -810≤Ma.minL (losG gs)∧Ma.minL (losG gs)≤Ma.maxL (losG gs)∧Ma.maxL (losG gs)≤Ma.maxL (hisG gs)∧Ma.minL (losG gs)≤Ma.minL (hisG gs)∧Ma.minL (hisG gs)≤Ma.maxL (hisG gs)∧Ma.maxL (hisG gs)≤810:=by
  have nl:0<(losG gs).length:=by rw [losG,List.length_map];exact hne
  have nh:0<(hisG gs).length:=by rw [hisG,List.length_map];exact hne
  obtain ⟨m1,m2⟩:=Ma.minL_spec _ nl
  obtain ⟨m3,m4⟩:=Ma.maxL_spec _ nl
  obtain ⟨m5,m6⟩:=Ma.minL_spec _ nh
  obtain ⟨m7,m8⟩:=Ma.maxL_spec _ nh
  obtain ⟨rl,hrl,erl⟩:=List.mem_map.mp m3
  obtain ⟨rg,hrg,erg⟩:=List.mem_map.mp m5
  obtain ⟨r1,hr1,er1⟩:=List.mem_map.mp m1
  obtain ⟨r7,hr7,er7⟩:=List.mem_map.mp m7
  have a1:=lohi (hg r1 hr1)
  have a2:=lohi (hg rl hrl)
  have a3:=lohi (hg rg hrg)
  have a4:=lohi (hg r7 hr7)
  have b1:=m8 _ (List.mem_map.mpr ⟨rl,hrl,rfl⟩)
  have b2:=m2 _ (List.mem_map.mpr ⟨rg,hrg,rfl⟩)
  exact ⟨by lia,m2 _ m3,by lia,by lia,m6 _ m7,by lia⟩
theorem near_progG {gs:List (List (Int×Int))} (hne:0<gs.length) (hg:∀ g∈gs,DOk g) {d r:Nat} {first:Int} (hr:(r:Int)=if Ma.maxL (hisG gs) - Ma.minL (losG gs)<d then Ma.maxL (hisG gs) - Ma.minL (losG gs) else d)
    (hf:first=if Ma.maxL (losG gs) - r>Ma.minL (losG gs) then Ma.maxL (losG gs) - r else Ma.minL (losG gs)) :
    Mq.sm (Mq.gat (fG gs) r) first (Ma.minL (hisG gs) - first+1).toNat=nearG gs d:=by
  have nl:0<(losG gs).length:=by rw [losG,List.length_map];exact hne
  have nh:0<(hisG gs).length:=by rw [hisG,List.length_map];exact hne
  have B:=boundsG hne hg
  obtain ⟨m1,m2⟩:=Ma.minL_spec _ nl
  obtain ⟨m3,m4⟩:=Ma.maxL_spec _ nl
  obtain ⟨m5,m6⟩:=Ma.minL_spec _ nh
  obtain ⟨m7,m8⟩:=Ma.maxL_spec _ nh
  obtain ⟨rl,hrl,erl⟩:=List.mem_map.mp m3
  obtain ⟨rg,hrg,erg⟩:=List.mem_map.mp m5
  unfold nearG
  exact (Mq.near_eq (fs:=fG gs) (fl:=fun t=>gv rl t) (fg:=fun t=>gv rg t) (fun f hf u hu=>by
      obtain ⟨g,hgm,rfl⟩:=List.mem_map.mp hf
      exact gv_up (hg g hgm) (by have:=m8 _ (List.mem_map.mpr ⟨g,hgm,rfl⟩);lia))
    (List.mem_map.mpr ⟨rl,hrl,rfl⟩) (fun u hu=>gv_dn (hg rl hrl) (by lia)) (List.mem_map.mpr ⟨rg,hrg,rfl⟩) (fun u hu=>gv_up (hg rg hrg) (by lia)) (by lia) (by lia) (by lia) (by lia) (by lia) hr hf).symm
end Me
namespace L2
open PySem PySem.Spec PyProof.Rows
section
variable {X:Cx} {tg:Expr}
end
section
variable {X:Cx}
theorem key_int {P:Program} {w:World} {vs:List (Key×Value)} {ns:List Int} (hk:vs.map (·.1)=ns.map Sum.inl) {i:Nat} {v:Value} (h:∃ k x,vs[i]?=some (k,x)∧(mixKind P w).is k v=true):∃ n t,ns[i]?=some n∧v=Value.int n t:=by
  obtain ⟨k,x,h1,h2⟩:=h
  have h3:(vs.map (·.1))[i]?=some k:=by rw [List.getElem?_map,h1];rfl
  rw [hk,List.getElem?_map] at h3
  cases q:ns[i]? with
  | none=>rw [q] at h3;cases h3
  | some m =>
    rw [q] at h3
    have h4:Sum.inl m=k:=Option.some.inj h3
    subst h4
    have h5:keyIs (Sum.inl m) v=true:=h2
    rcases keyIs_shape h5 with ⟨i',t,e1,e2⟩ | ⟨y,t,e1,_⟩
    · cases e1;exact ⟨m,t,rfl,e2⟩
    · cases e1
theorem call_maxD (hc:X.calm=true):CallR X (.builtin "max") (fun xs H Q=>∃ (a:Addr) (kvs:List (Key×V)) (ns:List Int),xs=[.ref a]∧Rd H a (.dK kvs)∧kvs.map (·.1)=ns.map Sum.inl∧0<ns.length∧Q (.int (Ma.maxL ns)) H):=by
  intro pins s σ H xs us Q I r h
  obtain ⟨a,kvs,ns,rfl,e,hk,hne,q⟩:=h
  obtain ⟨u,rfl,ru⟩:=vals1 r
  cases ru
  obtain ⟨z,hd,vs,rel,o,es,ep,ho,dd⟩:=dk_rd I.hok e
  have hkv:vs.map (·.1)=ns.map Sum.inl:=by rw [← rel.keys];exact hk
  have hn:vs.length=ns.length:=by simpa using congrArg List.length hkv
  have KS:=PySem.W.kdl_dict (prog:=X.prog) (w:=X.w) (ep:=ep) (kvs:=vs) (knd:=mixKind X.prog X.w) hd
  have hval:∀ (i:Nat) (v:Value),(∃ k x,vs[i]?=some (k,x)∧(mixKind X.prog X.w).is k v=true)→∃ t,v=.int ((fun i=>(ns[i]?).getD 0) i) t:=fun i v hP=>by
    obtain ⟨n,t,e,rfl⟩:=key_int hkv hP
    exact ⟨t,by simp [e]⟩
  obtain ⟨oI,St,hit,W,st⟩:=KS.iter X.A.in1 s (I.ok.hd hc) ⟨o,es,ho,dd⟩
  refine call_max_walk (hit _ _ ?_)
  refine ⟨_,_,_,_,_,_,_,rfl,W,st,fun b hb'=>?_,by omega,CmpOf.ints_gt (fun i=>(ns[i]?).getD 0) hval,fun v h' tk hP hk=>?_⟩
  · show b<(s.heap.push _).objs.size
    rw [Heap.size_push]
    rcases List.mem_cons.mp hb' with rfl | hb'
    · exact Nat.lt_succ_self _
    · rw [List.mem_singleton.mp hb'];exact Nat.lt_succ_of_lt (Heap.lt_size ho)
  · rw [hn] at hP
    have ab:=argBest_gt (fun i=>(ns[i]?).getD 0) (ns.length - 1)
    obtain ⟨n,t,e,rfl⟩:=key_int hkv hP
    have em:n=Ma.maxL ns:=Ma.maxL_uniq (List.mem_of_getElem? e) fun m hm=>by
      obtain ⟨j,hj⟩:=List.getElem?_of_mem hm
      have hjl:=(List.getElem?_eq_some_iff.mp hj).1
      have a2:=ab.2 j (by omega)
      simp only [hj,e,Option.getD_some] at a2
      exact a2
    subst em
    exact ⟨.int _,H,I.kept (t':=tk) (h':=h') (fun b o e=>hk b o (fun hI=>absurd (Heap.lt_size e) (by rw [List.mem_singleton.mp hI];exact Nat.lt_irrefl _)) (Heap.get?_push_of_some _ e)),⟨_,rfl⟩,q⟩
theorem call_minD (hc:X.calm=true):CallR X (.builtin "min") (fun xs H Q=>∃ (a:Addr) (kvs:List (Key×V)) (ns:List Int),xs=[.ref a]∧Rd H a (.dK kvs)∧kvs.map (·.1)=ns.map Sum.inl∧0<ns.length∧Q (.int (Ma.minL ns)) H):=by
  intro pins s σ H xs us Q I r h
  obtain ⟨a,kvs,ns,rfl,e,hk,hne,q⟩:=h
  obtain ⟨u,rfl,ru⟩:=vals1 r
  cases ru
  obtain ⟨z,hd,vs,rel,o,es,ep,ho,dd⟩:=dk_rd I.hok e
  have hkv:vs.map (·.1)=ns.map Sum.inl:=by rw [← rel.keys];exact hk
  have hn:vs.length=ns.length:=by simpa using congrArg List.length hkv
  have KS:=PySem.W.kdl_dict (prog:=X.prog) (w:=X.w) (ep:=ep) (kvs:=vs) (knd:=mixKind X.prog X.w) hd
  have hval:∀ (i:Nat) (v:Value),(∃ k x,vs[i]?=some (k,x)∧(mixKind X.prog X.w).is k v=true)→∃ t,v=.int ((fun i=>(ns[i]?).getD 0) i) t:=fun i v hP=>by
    obtain ⟨n,t,e,rfl⟩:=key_int hkv hP
    exact ⟨t,by simp [e]⟩
  obtain ⟨oI,St,hit,W,st⟩:=KS.iter X.A.in1 s (I.ok.hd hc) ⟨o,es,ho,dd⟩
  refine call_min_walk (hit _ _ ?_)
  refine ⟨_,_,_,_,_,_,_,rfl,W,st,fun b hb'=>?_,by omega,CmpOf.ints_lt (fun i=>(ns[i]?).getD 0) hval,fun v h' tk hP hk=>?_⟩
  · show b<(s.heap.push _).objs.size
    rw [Heap.size_push]
    rcases List.mem_cons.mp hb' with rfl | hb'
    · exact Nat.lt_succ_self _
    · rw [List.mem_singleton.mp hb'];exact Nat.lt_succ_of_lt (Heap.lt_size ho)
  · rw [hn] at hP
    have ab:=argBest_lt (fun i=>(ns[i]?).getD 0) (ns.length - 1)
    obtain ⟨n,t,e,rfl⟩:=key_int hkv hP
    have em:n=Ma.minL ns:=Ma.minL_uniq (List.mem_of_getElem? e) fun m hm=>by
      obtain ⟨j,hj⟩:=List.getElem?_of_mem hm
      have hjl:=(List.getElem?_eq_some_iff.mp hj).1
      have a2:=ab.2 j (by omega)
      simp only [hj,e,Option.getD_some] at a2
      exact a2
    subst em
    exact ⟨.int _,H,I.kept (t':=tk) (h':=h') (fun b o e=>hk b o (fun hI=>absurd (Heap.lt_size e) (by rw [List.mem_singleton.mp hI];exact Nat.lt_irrefl _)) (Heap.get?_push_of_some _ e)),⟨_,rfl⟩,q⟩
end
end L2
namespace Hv
open PySem L2
noncomputable def runs (f:Int→Int) (lo:Int) (n:Nat):List V:=(List.range (n+1)).map fun k=>V.int (Mq.sm f lo k)
theorem runs_len (f:Int→Int) (lo:Int) (n:Nat):(runs f lo n).length=n+1:=by simp [runs]
theorem runs_succ (f:Int→Int) (lo:Int) (n:Nat):runs f lo (n+1)=runs f lo n++[.int (Mq.sm f lo (n+1))]:=by
  unfold runs
  rw [List.range_succ (n:=n+1),List.map_append]
  rfl
theorem runs_at {f:Int→Int} {lo:Int} {n k:Nat} (h:k≤n):(runs f lo n)[k]?=some (.int (Mq.sm f lo k)):=by
  unfold runs
  rw [List.getElem?_map,List.getElem?_range (by lia)]
  rfl
theorem runs_last (f:Int→Int) (lo:Int):∀ n:Nat,atI (runs f lo n) (-1)=some (.int (Mq.sm f lo n))
  | 0=>atI_last [] (V.int (Mq.sm f lo 0))
  | n+1=>by rw [runs_succ];exact atI_last _ _
theorem pairG {α β:Type} {R:α→β→Prop}:∀ {as:List α} {bs:List β},Paired R as bs→∀ {i:Nat} {a:α},as[i]?=some a→∃ b,bs[i]?=some b∧R a b
  | _,_,.cons h t,0,a,e=>by cases e;exact ⟨_,rfl,h⟩
  | _,_,.cons h t,i+1,a,e=>by
    rw [List.getElem?_cons_succ] at e
    obtain ⟨b,h1,h2⟩:=pairG t e
    exact ⟨b,by rw [List.getElem?_cons_succ];exact h1,h2⟩
noncomputable def spRunning:Sp:=fun vs H Q _=>∃ (q:Addr) (g:List (Int×Int)) (lo hi:Int),vs=[.ref q,.int lo,.int hi]∧H q=some (.dK (intsD g))∧-5000≤lo∧lo≤5000∧-5000≤hi∧hi≤5000∧
  ∀ r H',H r=none→Same H H'→H' r=some (.lst (runs (Me.gv g) lo (hi+1 - lo).toNat))→Q (.ref r) H'
noncomputable abbrev RunsAt (H:Hp) (lo:Int) (n:Nat) (rs:List Addr) (rows:List (List (Int×Int))):Prop:=Paired (fun r row=>H r=some (.lst (runs (fun t=>Me.gv row t) lo n))) rs rows
theorem RunsAt.keep {H H':Hp} {lo:Int} {n:Nat} {rs:List Addr} {rows:List (List (Int×Int))} (s:Same H H') (h:RunsAt H lo n rs rows):RunsAt H' lo n rs rows:=L2.Paired.mapP h fun q row e=>s _ _ e
noncomputable abbrev WaysG (H:Hp) (qs:List Addr) (gs:List (List (Int×Int))):Prop:=Paired (fun q g=>H q=some (.dK (intsD g))) qs gs
theorem WaysG.keep {H H':Hp} {qs:List Addr} {gs:List (List (Int×Int))} (h:WaysG H qs gs) (s:Same H H'):WaysG H' qs gs:=L2.Paired.mapP h fun q g e=>s _ _ e
noncomputable def spWithin:Sp:=fun vs H Q _=>∃ (p:Addr) (rs:List Addr) (rows:List (List (Int×Int))) (lo:Int) (n s e:Nat),vs=[.ref p,.int s,.int e]∧H p=some (.lst (rs.map V.ref))∧RunsAt H lo n rs rows∧(∀ row∈rows,Me.DOk row)∧n≤20000∧s≤e∧e≤n∧
  Q (.int (Mq.pr (Me.fG rows) (lo+s) (e - s))) H
section
variable {P:Program} {w:World} {K:PySem.W.Frag} {mg:Str→Option Value} {base:Heap}
theorem scRunning:FnScope ["ways","low","high","counts","total"] ["ways","low","high"] (defScope sRunning):=⟨rfl,rfl,rfl,by decide +kernel,rfl,by decide +kernel,by decide +kernel⟩
theorem ok_running {f:Addr} {fd:FuncData} (F:Fun K "running_counts" "running_counts" sRunning f fd) (T:Txt mg):FnOk P w K mg base CX0 1 f fd ["ways","low","high"] spRunning:=by
  refine F.ok scRunning (fun vs H Q E h=>?_) (fun cdv A outer s H vs Q E hr h=>?_)
  · obtain ⟨q,g,lo,hi,rfl,_⟩:=h;rfl
  · obtain ⟨q,g,lo,hi,rfl,hq,a1,a2,a3,a4,k⟩:=h
    have nd:=scRunning.nd
    have hu:=hu_of hr
    refine ⟨_,pss_cons (ps_set (i:=3) nd rfl (Or.inl rfl) (pe_lst (pa_cons pe_int pa_nil)))
      (pss_cons (ps_for PassesOwn.never rfl (pi_range2 (by rfl) T.range (pa_cons (pv 1) (pa_cons (pe_op op_add (pv 2) pe_int) pa_nil))) (pg_name (i:=4) nd rfl (Or.inl rfl))
        (pss_one (ps_expr (pe_bm PySem.F.plainAttrs_list PySem.F.slot_list_append PySem.F.type_list_append mt_append (pv 3) (pa_cons (pe_op op_add (ixl (pv 3) (pe_un un_neg pe_int)) (pe_dget2 hu (pv 0) (pv 4) pe_int ⟨rfl,rfl,rfl,rfl⟩)) pa_nil)))))
      (pss_one (ps_ret (pv 3)))),?_⟩
    refine ⟨sz (by simp),fun r hr'=>?_⟩
    have s0:=same_upd (o:=.lst [.int 0]) hr'
    refine ⟨_,rfl,_,rfl,_,_,rfl,rfl,_,_,rfl,⟨by lia,by lia,by lia,by lia⟩,?_⟩
    refine for_range (n:=(hi+1 - lo).toNat) (fun i σ H2=>∃ v4,σ=[some (.ref q),some (.int lo),some (.int hi),some (.ref r),v4]∧Same H H2∧H2 r=some (.lst (runs (Me.gv g) lo i))) ⟨none,rfl,s0,upd_same⟩ ?_ ?_
    · rintro i σ H2 hi' ⟨v4,rfl,s2,h2⟩
      refine ⟨_,rfl,.inl ⟨rfl,_,SqL.of h2⟩,_,rfl,1,rfl,?_⟩
      have e1:=runs_last (Me.gv g) lo i
      refine r_ixl h2 e1 ⟨_,rfl,q,rfl,.inl ⟨_,.inl (s2 _ _ hq)⟩,_,rfl,_,dget_ints (.inl (s2 _ _ hq)),_,_,rfl,getD_int _,⟨r,_,_,rfl,rfl,h2,szl (by rw [runs_len];lia),_,rfl,same_upd2 s2 hr',?_⟩⟩
      rw [upd_same,runs_succ]
      rfl
    · rintro σ H2 ⟨v4,rfl,s2,h2⟩
      exact ⟨_,rfl,k r H2 hr' s2 h2⟩
theorem refG {qs:List Addr} {i:Nat} {x:V} (hx:(qs.map V.ref)[i]?=some x):∃ q:Addr,qs[i]?=some q∧x=.ref q:=by
  rw [List.getElem?_map] at hx
  cases e:qs[i]? with
  | none=>rw [e] at hx;cases hx
  | some d=>rw [e] at hx;exact ⟨d,rfl,(Option.some.inj hx).symm⟩
theorem sm_diff (f:Int→Int) (lo:Int) {s e:Nat} (h:s≤e):Mq.sm f lo e - Mq.sm f lo s=Mq.sm f (lo+s) (e - s):=by
  obtain ⟨k,rfl⟩:=Nat.exists_eq_add_of_le h
  rw [Mq.sm_add,Nat.add_sub_cancel_left]
  lia
theorem fws_take {rows:List (List (Int×Int))} {i:Nat} {row:List (Int×Int)} (h:rows[i]?=some row) (a:Int) (n:Nat):Mq.pr (Me.fG (rows.take (i+1))) a n=Mq.pr (Me.fG (rows.take i)) a n*Mq.sm (fun t=>Me.gv row t) a n:=by
  unfold Mq.pr Me.fG
  rw [List.take_add_one,h]
  simp
theorem scWithin:FnScope ["running_by_part","start","end","many","running"] ["running_by_part","start","end"] (defScope sWithin):=⟨rfl,rfl,rfl,by decide +kernel,rfl,by decide +kernel,by decide +kernel⟩
theorem ok_within {f:Addr} {fd:FuncData} (F:Fun K "ways_within" "ways_within" sWithin f fd):FnOk P w K mg base CX0 1 f fd ["running_by_part","start","end"] spWithin:=by
  refine F.ok scWithin (fun vs H Q E h=>?_) (fun cdv A outer s H vs Q E hr h=>?_)
  · obtain ⟨p,rs,rows,lo,n,s,e,rfl,_⟩:=h;rfl
  · obtain ⟨p,rs,rows,lo,n,st,e,rfl,hp,ra,hrs,hn,hse,hen,k⟩:=h
    have nd:=scWithin.nd
    refine ⟨_,pss_cons (ps_set (i:=3) nd rfl (Or.inl rfl) pe_int)
      (pss_cons (ps_for PassesOwn.never rfl (pi_list (pv 0)) (pg_name (i:=4) nd rfl (Or.inl rfl))
        (pss_one (ps_set (i:=3) nd rfl (Or.inl rfl) (pe_op op_mul (pv 3) (pe_op op_sub (ixl (pv 4) (pv 2)) (ixl (pv 4) (pv 1)))))))
      (pss_one (ps_ret (pv 3)))),?_⟩
    refine ⟨_,rfl,p,rfl,⟨_,SqL.of hp⟩,for_list (K:=K) (a:=p) (xs:=rs.map V.ref) (fun i σ H'=>∃ v4,σ=[some (.ref p),some (.int st),some (.int e),some (.int (Mq.pr (Me.fG (rows.take i)) (lo+st) (e - st))),v4]∧H=H')
      ⟨none,rfl,rfl⟩ (fun i σ H' _ h=>by obtain ⟨_,_,e⟩:=h;rw [← e];exact SqL.of hp) ?_ ?_⟩
    · rintro i x σ H' hx ⟨v4,rfl,rfl⟩
      obtain ⟨q,hq,rfl⟩:∃ q:Addr,rs[i]?=some q∧x=.ref q:=by
        rw [List.getElem?_map] at hx
        cases e:rs[i]? with
        | none=>rw [e] at hx;cases hx
        | some d=>rw [e] at hx;exact ⟨d,rfl,(Option.some.inj hx).symm⟩
      obtain ⟨row,hj,hrow⟩:=pairG ra hq
      have hl:=hrs row (List.mem_of_getElem? hj)
      have bd:=Me.sm_bd (f:=fun t=>Me.gv row t) hl.val (lo+st) (e - st)
      refine ⟨_,rfl,_,rfl,_,rfl,r_ixl hrow (atI_nat (runs_at (by lia))) ⟨_,rfl,_,rfl,r_ixl hrow (atI_nat (runs_at (by lia))) ⟨_,_,rfl,rfl,?_⟩⟩⟩
      dsimp only
      rw [sm_diff _ _ hse]
      refine ⟨_,_,rfl,rfl,.inr ⟨by lia,by lia⟩,some (.ref q),?_,rfl⟩
      rw [fws_take hj]
      rfl
    · rintro σ H' ⟨v4,rfl,rfl⟩
      have el:(rs.map V.ref).length=rows.length:=by rw [List.length_map];exact ra.length
      rw [el,List.take_length]
      exact ⟨_,rfl,k⟩
noncomputable def spSpread:Sp:=fun vs H Q _=>∃ (p:Addr) (qs:List Addr) (rows:List (List (Int×Int))) (d:Nat),vs=[.ref p,.int d]∧H p=some (.lst (qs.map V.ref))∧WaysG H qs rows∧0<rows.length∧rows.length≤4∧(∀ row∈rows,Me.DOk row)∧
  ∀ H',Same H H'→Q (.int (Me.nearG rows d)) H'
theorem scSpread:FnScope ["ways_by_part","width","leasts","greatests","reach","first","last","running_by_part","count","start","end"] ["ways_by_part","width"] (defScope sSpreadW):=⟨rfl,rfl,rfl,by decide +kernel,rfl,by decide +kernel,by decide +kernel⟩
theorem ok_spread {f:Addr} {fd:FuncData} (F:Fun K "count_spread_within" "count_spread_within" sSpreadW f fd) (T:Txt mg) (DR:Def P w K mg base 1 "running_counts" ["ways","low","high"] spRunning) (DW:Def P w K mg base 1 "ways_within" ["running_by_part","start","end"] spWithin) :
    FnOk P w K mg base CX0 2 f fd ["ways_by_part","width"] spSpread:=by
  refine F.ok scSpread (fun vs H Q E h=>?_) (fun cdv A outer s H vs Q E hr h=>?_)
  · obtain ⟨p,qs,rows,d,rfl,_⟩:=h;rfl
  · obtain ⟨p,qs,rows,d,rfl,hp,wa,hne,h4,hrs,k⟩:=h
    have nd:=scSpread.nd
    refine ⟨_,pss_cons (ps_cmp1 (defScope sSpreadW) ["ways_by_part","width","leasts","greatests","reach","first","last","running_by_part","count","start","end"] [] [] (i:=2) nd rfl (Or.inl rfl) rfl (pi_list (pv 0)) (fun cl C s H fp=>pf_nil) (fun cl C s H fp=>pe_callB (call_minD rfl) (by rfl) T.min boot_min (pa_cons (pv 0) pa_nil)) (by decide +kernel) (by rfl))
      (pss_cons (ps_cmp1 (defScope sSpreadW) ["ways_by_part","width","leasts","greatests","reach","first","last","running_by_part","count","start","end"] [] [] (i:=3) nd rfl (Or.inl rfl) rfl (pi_list (pv 0)) (fun cl C s H fp=>pf_nil) (fun cl C s H fp=>pe_callB (call_maxD rfl) (by rfl) T.max boot_max (pa_cons (pv 0) pa_nil)) (by decide +kernel) (by rfl))
      (pss_cons (ps_set (i:=4) nd rfl (Or.inr rfl) (pe_callB (call_min2 rfl) (by rfl) T.min boot_min (pa_cons (pv 1) (pa_cons (pe_op op_sub (pe_callB (call_maxL rfl) (by rfl) T.max boot_max (pa_cons (pv 3) pa_nil)) (pe_callB (call_minL rfl) (by rfl) T.min boot_min (pa_cons (pv 2) pa_nil))) pa_nil))))
      (pss_cons (ps_set (i:=5) nd rfl (Or.inr rfl) (pe_callB (call_max2 rfl) (by rfl) T.max boot_max (pa_cons (pe_callB (call_minL rfl) (by rfl) T.min boot_min (pa_cons (pv 2) pa_nil)) (pa_cons (pe_op op_sub (pe_callB (call_maxL rfl) (by rfl) T.max boot_max (pa_cons (pv 2) pa_nil)) (pv 4)) pa_nil))))
      (pss_cons (ps_set (i:=6) nd rfl (Or.inr rfl) (pe_callB (call_minL rfl) (by rfl) T.min boot_min (pa_cons (pv 3) pa_nil)))
      (pss_cons (ps_cmp1 (defScope sSpreadW) ["ways_by_part","width","leasts","greatests","reach","first","last","running_by_part","count","start","end"] ["first","last","reach"] [5,6,4] (i:=7) nd rfl (Or.inl rfl) rfl (pi_list (pv 0)) (fun cl C s H fp=>pf_nil) (fun cl C s H fp=>pe_fn DR hr (by rfl) (pa_cons (pv 0) (pa_cons (pv 1) (pa_cons (pe_op op_add (pv 2) (pv 3)) pa_nil)))) (by decide +kernel) (by rfl))
      (pss_cons (ps_set (i:=8) nd rfl (Or.inl rfl) pe_int)
      (pss_cons (ps_for PassesOwn.never rfl (pi_range1 (by rfl) T.range (pa_cons (pe_op op_add (pe_op op_sub (pv 6) (pv 5)) pe_int) pa_nil)) (pg_name (i:=9) nd rfl (Or.inl rfl))
        (pss_cons (ps_set (i:=10) nd rfl (Or.inl rfl) (pe_op op_add (pe_op op_add (pv 9) (pv 4)) pe_int))
        (pss_one (ps_aug (i:=8) nd rfl (Or.inl rfl) (pe_op op_sub (pe_fn DW hr (by rfl) (pa_cons (pv 7) (pa_cons (pv 9) (pa_cons (pv 10) pa_nil)))) (pe_fn DW hr (by rfl) (pa_cons (pv 7) (pa_cons (pe_op op_add (pv 9) pe_int) (pa_cons (pv 10) pa_nil))))) ip_add))))
      (pss_one (ps_ret (pv 8)))))))))),?_⟩
    have hql:qs.length=rows.length:=wa.length
    -- the least sums
    refine ⟨_,rfl,p,rfl,⟨_,SqL.of hp⟩,comp_list (K:=K) (a:=p) (xs:=qs.map V.ref) (fun i ys H2=>ys=(Me.losG (rows.take i)).map V.int∧H=H2) ⟨rfl,rfl⟩ (fun i ys H2 _ h=>by rw [← h.2];exact SqL.of hp) ?_ ?_⟩
    · rintro i x ys H2 hx ⟨rfl,rfl⟩
      obtain ⟨q,hq,rfl⟩:=refG hx
      have hil:i<qs.length:=(List.getElem?_eq_some_iff.mp hq).1
      obtain ⟨g,hj,hg⟩:=pairG wa hq
      have kl:=(hrs g (List.mem_of_getElem? hj)).ne
      refine ⟨szl (by simp [Me.losG];lia),_,rfl,q,intsD g,Me.keys g,rfl,.inl hg,by simp [intsD,Me.keys],kl,?_,rfl⟩
      rw [List.take_add_one,hj]
      simp [Me.losG]
    rintro ys H2 ⟨rfl,rfl⟩ l1 h1
    rw [List.length_map,hql,List.take_length]
    have s1:=same_upd (o:=.lst ((Me.losG rows).map V.int)) h1
    have u1:upd H l1 (.lst ((Me.losG rows).map V.int)) l1=some (.lst ((Me.losG rows).map V.int)):=upd_same
    generalize upd H l1 (.lst ((Me.losG rows).map V.int))=H1 at s1 u1⊢
    have hp1:=s1 _ _ hp
    have wa1:=wa.keep s1
    -- the greatest sums
    refine ⟨_,rfl,p,rfl,⟨_,SqL.of hp1⟩,comp_list (K:=K) (a:=p) (xs:=qs.map V.ref) (fun i ys H2=>ys=(Me.hisG (rows.take i)).map V.int∧H1=H2) ⟨rfl,rfl⟩ (fun i ys H2 _ h=>by rw [← h.2];exact SqL.of hp1) ?_ ?_⟩
    · rintro i x ys H2 hx ⟨rfl,rfl⟩
      obtain ⟨q,hq,rfl⟩:=refG hx
      have hil:i<qs.length:=(List.getElem?_eq_some_iff.mp hq).1
      obtain ⟨g,hj,hg⟩:=pairG wa1 hq
      have kl:=(hrs g (List.mem_of_getElem? hj)).ne
      refine ⟨szl (by simp [Me.hisG];lia),_,rfl,q,intsD g,Me.keys g,rfl,.inl hg,by simp [intsD,Me.keys],kl,?_,rfl⟩
      rw [List.take_add_one,hj]
      simp [Me.hisG]
    rintro ys H2 ⟨rfl,rfl⟩ l2 h2
    rw [List.length_map,hql,List.take_length]
    have s2:=s1.trans (same_upd (o:=.lst ((Me.hisG rows).map V.int)) h2)
    have u2:upd H1 l2 (.lst ((Me.hisG rows).map V.int)) l2=some (.lst ((Me.hisG rows).map V.int)):=upd_same
    have u1':=same_upd (o:=.lst ((Me.hisG rows).map V.int)) h2 _ _ u1
    generalize upd H1 l2 (.lst ((Me.hisG rows).map V.int))=H2 at s2 u2 u1'⊢
    have nl:0<(Me.losG rows).length:=by rw [Me.losG,List.length_map];exact hne
    have nh:0<(Me.hisG rows).length:=by rw [Me.hisG,List.length_map];exact hne
    have B:=Me.boundsG hne hrs
    obtain ⟨B1,B2,B3,B4,B5,B6⟩:=B
    refine ⟨_,rfl,_,rfl,l2,_,rfl,SqL.of u2,nh,_,rfl,l1,_,rfl,SqL.of u1',nl,_,_,rfl,rfl,_,_,rfl,?_⟩
    dsimp only
    obtain ⟨r,hr'⟩:∃ r:Nat,(r:Int)=if Ma.maxL (Me.hisG rows) - Ma.minL (Me.losG rows)<(d:Int) then Ma.maxL (Me.hisG rows) - Ma.minL (Me.losG rows) else (d:Int):=⟨(if Ma.maxL (Me.hisG rows) - Ma.minL (Me.losG rows)<(d:Int) then Ma.maxL (Me.hisG rows) - Ma.minL (Me.losG rows) else (d:Int)).toNat,by split <;> lia⟩
    rw [← hr']
    have rb:(r:Int)≤1620:=by split at hr' <;> lia
    refine ⟨_,rfl,l1,_,rfl,SqL.of u1',nl,_,rfl,l1,_,rfl,SqL.of u1',nl,_,rfl,_,_,rfl,rfl,_,_,rfl,?_⟩
    dsimp only
    generalize hf:(if Ma.maxL (Me.losG rows) - (r:Int)>Ma.minL (Me.losG rows) then Ma.maxL (Me.losG rows) - (r:Int) else Ma.minL (Me.losG rows))=first
    have fb : -2430≤first∧first≤810:=by rw [← hf];split <;> lia
    refine ⟨_,rfl,l2,_,rfl,SqL.of u2,nh,?_⟩
    generalize hg0:Ma.minL (Me.hisG rows)=last
    rw [hg0] at B4 B5
    have hp2:=s2 _ _ hp
    have wa2:=wa.keep s2
    obtain ⟨n,hn⟩:∃ n:Nat,n=(last+(r:Int)+1 - first).toNat:=⟨_,rfl⟩
    -- the running counts
    refine ⟨_,rfl,p,rfl,⟨_,SqL.of hp2⟩,comp_list (K:=K) (a:=p) (xs:=qs.map V.ref) (fun i ys H3=>∃ ts,ys=ts.map V.ref∧ts.length=i∧Same H2 H3∧RunsAt H3 first n ts (rows.take i))
      ⟨[],rfl,rfl,Same.refl _,.nil⟩ (fun i ys H3 _ h=>by obtain ⟨_,_,_,s',_⟩:=h;exact SqL.of (s' _ _ hp2)) ?_ ?_⟩
    · rintro i x ys H3 hx ⟨ts,rfl,htl,s3,ra⟩
      obtain ⟨q,hq,rfl⟩:=refG hx
      have hil:i<qs.length:=(List.getElem?_eq_some_iff.mp hq).1
      obtain ⟨g,hj,hg⟩:=pairG wa2 hq
      refine ⟨szl (by rw [List.length_map];lia),_,rfl,_,rfl,_,rfl,_,rfl,_,_,rfl,rfl,q,g,first,last+(r:Int),rfl,s3 _ _ hg,by lia,by lia,by lia,by lia,fun r' H4 hr4 s4 h4=>?_⟩
      refine ⟨ts++[r'],by simp,by simp [htl],s3.trans s4,?_⟩
      rw [List.take_add_one,hj]
      rw [← hn] at h4
      exact Paired.snoc (ra.keep s4) h4
    rintro ys H3 ⟨ts,rfl,htl,s3,ra⟩ l3 h3
    rw [List.length_map,hql,List.take_length] at ra
    have s4:=(s2.trans s3).trans (same_upd (o:=.lst (ts.map V.ref)) h3)
    have ra4:=ra.keep (same_upd (o:=.lst (ts.map V.ref)) h3)
    have u3:upd H3 l3 (.lst (ts.map V.ref)) l3=some (.lst (ts.map V.ref)):=upd_same
    generalize upd H3 l3 (.lst (ts.map V.ref))=H4 at s4 ra4 u3⊢
    refine ⟨_,rfl,_,rfl,_,_,rfl,rfl,_,_,rfl,rfl,_,rfl,by lia,by lia,?_⟩
    have en:(last - first+1).toNat=(Ma.minL (Me.hisG rows) - first+1).toNat:=by rw [hg0]
    refine for_range (lo:=0) (n:=(last - first+1).toNat) (fun i σ H5=>∃ v9 v10,σ=[some (.ref p),some (.int d),some (.ref l1),some (.ref l2),some (.int r),some (.int first),some (.int last),some (.ref l3),some (.int (Mq.sm (Mq.gat (Me.fG rows) r) first i)),v9,v10]∧H4=H5) ⟨none,none,?_,rfl⟩ ?_ ?_
    · rfl
    · rintro i σ H5 hi ⟨v9,v10,rfl,rfl⟩
      refine ⟨_,rfl,_,rfl,_,_,rfl,rfl,_,_,rfl,rfl,?_⟩
      dsimp only
      refine ⟨_,rfl,_,rfl,_,rfl,_,rfl,l3,ts,rows,first,n,i,i+r+1,?_,u3,ra4,hrs,by lia,by lia,by lia,?_⟩
      · show [V.ref l3,V.int (0+(i:Int)),V.int (0+(i:Int)+(r:Int)+1)]=_
        rw [Int.zero_add]
        push_cast
        rfl
      refine ⟨_,rfl,_,rfl,_,_,rfl,rfl,_,rfl,l3,ts,rows,first,n,i+1,i+r+1,?_,u3,ra4,hrs,by lia,by lia,by lia,?_⟩
      · show [V.ref l3,V.int (0+(i:Int)+1),V.int (0+(i:Int)+(r:Int)+1)]=_
        rw [Int.zero_add]
        push_cast
        rfl
      refine ⟨_,_,rfl,rfl,_,_,rfl,rfl,some (.int (0+(i:Int))),some (.int (0+(i:Int)+(r:Int)+1)),?_,rfl⟩
      have e1:i+r+1 - i=r+1:=by lia
      have e2:i+r+1 - (i+1)=r:=by lia
      have e3:first+((i+1:Nat):Int)=first+(i:Int)+1:=by push_cast;lia
      rw [e1,e2,e3]
      rfl
    · rintro σ H5 ⟨v9,v10,rfl,rfl⟩
      refine ⟨_,rfl,?_⟩
      rw [en,Me.near_progG hne hrs hr' hf.symm]
      exact k _ s4
end
end Hv
namespace Ma
noncomputable def num (b:Nat) (ds:List Nat):Nat:=ds.foldl (fun x d=>x*b+d) 0
noncomputable def behind (b n L:Nat):Nat:=num b (dws b n L L).reverse
end Ma
namespace Hv
open PySem L2
section
variable {P:Program} {w:World} {K:PySem.W.Frag} {mg:Str→Option Value} {base:Heap}
end
end Hv
namespace L2
open PySem PySem.Spec PyProof.Rows
noncomputable abbrev IsTri (h:Heap) (T:Addr) (a b c:Value):Prop:=h.get? T=some {cls:=.type "tuple",data:=.seq #[a,b,c]}
section
variable {prog:Program} {w:World} {A:Around} {E:Value→Shared→Prop} {s:Shared}
end
end L2
namespace L2
open PySem PySem.Spec PyProof.Rows
section
variable {prog:Program} {w:World} {A:Around} {E:Value→Shared→Prop} {s:Shared}
end
noncomputable abbrev z3a (h:Heap) (l1:Addr):Heap:=h.push {cls:=.type "list_iterator",data:=.fields #[.ref l1,.int 0 0]}
noncomputable abbrev z3b (h:Heap) (l1 l2:Addr):Heap:=(z3a h l1).push {cls:=.type "list_iterator",data:=.fields #[.ref l2,.int 0 0]}
noncomputable abbrev z3c (h:Heap) (l1 l2 l3:Addr):Heap:=(z3b h l1 l2).push {cls:=.type "list_iterator",data:=.fields #[.ref l3,.int 0 0]}
noncomputable abbrev z3d (h:Heap) (l1 l2 l3:Addr):Heap:=(z3c h l1 l2 l3).push {cls:=.type "tuple",data:=.seq #[.ref h.objs.size,.ref (z3a h l1).objs.size,.ref (z3b h l1 l2).objs.size]}
noncomputable abbrev z3e (h:Heap) (l1 l2 l3:Addr):Heap:=(z3d h l1 l2 l3).push {cls:=.type "tuple",data:=.seq #[.none,.none,.none]}
noncomputable abbrev z3f (h:Heap) (l1 l2 l3:Addr):Heap:=(z3e h l1 l2 l3).push {cls:=.type "zip",data:=.fields #[.none,.bool false,.bool false,.ref (z3c h l1 l2 l3).objs.size,.ref (z3d h l1 l2 l3).objs.size]}
end L2
namespace L2
open PySem PySem.Spec PyProof.Rows
section
variable {prog:Program} {w:World} {A:Around} {E:Value→Shared→Prop} {s:Shared}
end
section
variable {X:Cx} {l l2 l3:Expr} {tl tl2 tl3:TE} {elts:List Expr} {p pos tpos:Pos}
end
end L2
namespace Hv
open PySem L2
noncomputable abbrev wz (ds:List Nat) (ws:List Int):List Int:=List.zipWith (fun (d:Nat) (x:Int)=>(d:Int)*x) ds ws
section
variable {P:Program} {w:World} {K:PySem.W.Frag} {mg:Str→Option Value} {base:Heap}
end
end Hv
namespace Mq
theorem sm_one {f:Int→Int} {a k:Int}:∀ {n:Nat},a≤k→k<a+n→sm f a n=sm (fun t=>if t=k then 0 else f t) a n+f k
  | 0,h1,h2=>by lia
  | n+1,h1,h2=>by
    simp only [sm]
    by_cases e:a+(n:Int)=k
    · rw [if_pos e,e]
      have:sm f a n=sm (fun t=>if t=k then 0 else f t) a n:=sm_congr fun t _ h=>by
        rw [if_neg (by lia)]
      rw [this]
      lia
    · rw [if_neg e,sm_one (n:=n) h1 (by push_cast at h2;lia)]
      lia
theorem sm_list {a:Int} {n:Nat}:∀ {ks:List Int} {f:Int→Int},ks.Nodup→(∀ k∈ks,a≤k∧k<a+n)→(∀ t,t∉ks→f t=0)→(ks.map f).sum=sm f a n
  | [],f,_,_,z=>by
    rw [sm_zero fun t _ _=>z t (by simp)]
    rfl
  | k::ks,f,nd,h,z=>by
    obtain ⟨n1,n2⟩:=List.nodup_cons.mp nd
    rw [sm_one (f:=f) (h k (by simp)).1 (h k (by simp)).2]
    have ih:=sm_list (a:=a) (n:=n) (ks:=ks) (f:=fun t=>if t=k then 0 else f t) n2 (fun q hq=>h q (by simp [hq])) (fun t ht=>by
      by_cases e:t=k
      · rw [if_pos e]
      · rw [if_neg e];exact z t (by simp [e,ht]))
    rw [← ih,List.map_cons,List.sum_cons]
    have e:ks.map (fun t=>if t=k then 0 else f t)=ks.map f:=List.map_congr_left fun t ht=>if_neg (fun (z:t=k)=>n1 (by rw [← z];exact ht))
    rw [e]
    lia
end Mq
namespace Me
open Mq
theorem prodW_nn (b:Nat) (rows:List (List Int)) (t:Int):0≤prodW b rows t:=prod_nn rows 1 (by decide)
theorem filt_sum {b:Nat} {rows:List (List Int)}:∀ ks:List Int,((ks.filter fun k=>decide (0<prodW b rows k)).map (prodW b rows)).sum=(ks.map (prodW b rows)).sum
  | []=>rfl
  | k::ks=>by
    have ih:=filt_sum (b:=b) (rows:=rows) ks
    by_cases h:0<prodW b rows k
    · rw [List.filter_cons_of_pos (by simpa using h),List.map_cons,List.map_cons,List.sum_cons,List.sum_cons,ih]
    · have:prodW b rows k=0:=by have:=prodW_nn b rows k;lia
      rw [List.filter_cons_of_neg (by simpa using h),List.map_cons,List.sum_cons,ih,this]
      lia
theorem even_tot (b:Nat) (rows:List (List Int)) (ks:List Int):tot (evenL b rows ks)=(ks.map (prodW b rows)).sum:=by
  rw [← filt_sum]
  unfold tot evenL
  rw [List.map_map]
  rfl
theorem pr_one {b:Nat} (t:Int):∀ (rows:List (List Int)) (c:Int),(fws b rows).foldl (fun m f=>m*sm f t 1) c=rows.foldl (fun m row=>m*(look (waysW b row) t).getD 0) c
  | [],_=>rfl
  | r::rows,c=>by
    have e:sm (fw b r) t 1=(look (waysW b r) t).getD 0:=by
      simp [sm,fw]
    show (fws b rows).foldl _ (c*sm (fw b r) t 1)=_
    rw [pr_one t rows,List.foldl_cons,e]
theorem keys_in_lh {b:Nat} (hb:1≤b) {rows:List (List Int)} {row:List Int} (hr:row∈rows):∀ k∈keys (waysW b row),Ma.minL (los b rows)≤k∧k≤Ma.maxL (his b rows):=fun k hk=>by
  have h1:=(Ma.minL_spec _ (keys_ne hb row)).2 k hk
  have h2:=(Ma.maxL_spec _ (keys_ne hb row)).2 k hk
  have nl:0<(los b rows).length:=by rw [los,List.length_map];exact List.length_pos_of_mem hr
  have nh:0<(his b rows).length:=by rw [his,List.length_map];exact List.length_pos_of_mem hr
  have h3:=(Ma.minL_spec _ nl).2 (loW b row) (List.mem_map.mpr ⟨row,hr,rfl⟩)
  have h4:=(Ma.maxL_spec _ nh).2 (hiW b row) (List.mem_map.mpr ⟨row,hr,rfl⟩)
  unfold loW at h3
  unfold hiW at h4
  lia
theorem near_zero {b:Nat} (hb:1≤b) {rows:List (List Int)} {row:List Int} (h0:rows[0]?=some row):nearV b rows 0=tot (evenL b rows (keys (waysW b row))):=by
  have hm:row∈rows:=List.mem_of_getElem? h0
  rw [even_tot]
  have hin:=keys_in_lh hb hm
  rw [sm_list (a:=Ma.minL (los b rows)) (n:=(Ma.maxL (his b rows) - Ma.minL (los b rows)+1).toNat) (ways_tw b row).nd (fun k hk=>by have:=hin k hk;lia) fun t ht=>prodW_off h0 ht]
  unfold nearV
  apply sm_congr
  intro t _ _
  unfold gat
  rw [pr_zero (fs:=fws b rows) (f:=fw b row) (a:=t+1) (n:=0) (List.mem_map.mpr ⟨row,hm,rfl⟩) rfl]
  have:pr (fws b rows) t (0+1)=prodW b rows t:=pr_one t rows 1
  rw [this]
  lia
end Me
namespace Mg
open Me Mq
noncomputable def ns (g:Nat→Int):Nat→Int
  | 0=>0
  | n+1=>ns g n+g n
theorem ns_congr {g h:Nat→Int}:∀ {n:Nat},(∀ i,i<n→g i=h i)→ns g n=ns h n
  | 0,_=>rfl
  | n+1,e=>by rw [ns,ns,ns_congr (n:=n) fun i hi=>e i (by lia),e n (by lia)]
theorem ns_add (g:Nat→Int) (n:Nat):∀ m:Nat,ns g (n+m)=ns g n+ns (fun i=>g (n+i)) m
  | 0=>by simp [ns]
  | m+1=>by
    rw [← Nat.add_assoc,ns,ns,ns_add g n m]
    lia
theorem ns_two (g:Nat→Int) (b:Nat):∀ a:Nat,ns g (a*b)=ns (fun i=>ns (fun j=>g (i*b+j)) b) a
  | 0=>by simp [ns]
  | a+1=>by
    rw [Nat.succ_mul,ns_add,ns,ns_two g b a]
noncomputable def tg (f:List (Int×Int)) (G:Int→Int):Int:=(f.map fun q=>q.2*G q.1).sum
theorem tg_cons (p:Int×Int) (f:List (Int×Int)) (G:Int→Int):tg (p::f) G=p.2*G p.1+tg f G:=by simp [tg]
theorem tg_add {k n:Int} {G:Int→Int}:∀ {f:List (Int×Int)},(keys f).Nodup→tg (addTo f k n) G=tg f G+n*G k
  | [],_=>by simp [addTo,put,look,tg]
  | (a,x)::f,nd=>by
    have nd1:a∉keys f:=(List.nodup_cons.mp nd).1
    have nd2:(keys f).Nodup:=(List.nodup_cons.mp nd).2
    by_cases e:a=k
    · subst e
      rw [add_hit nd1,tg_cons,tg_cons]
      simp only
      rw [Int.add_mul]
      lia
    · rw [add_miss e,tg_cons,tg_cons,tg_add (k:=k) (n:=n) nd2]
      lia
theorem tg_figs {p:Int×Int} {w:Int} {G:Int→Int} {acc:List (Int×Int)} (nd:(keys acc).Nodup):∀ n:Nat,tg (figs p w n acc) G=tg acc G+p.2*ns (fun (d:Nat)=>G (p.1+(d:Int)*w)) n
  | 0=>by simp [ns,figs]
  | n+1=>by
    rw [figs_succ,tg_add (figs_nd nd n),tg_figs nd n,ns,Int.mul_add]
    lia
theorem tg_more {b:Nat} {w:Int} {G:Int→Int}:∀ (f acc:List (Int×Int)),(keys acc).Nodup→tg (f.foldl (fun acc p=>figs p w b acc) acc) G=tg acc G+tg f fun x=>ns (fun (d:Nat)=>G (x+(d:Int)*w)) b
  | [],acc,_=>by simp [tg]
  | p::f,acc,nd=>by
    rw [List.foldl_cons,tg_more f _ (figs_nd nd b),tg_figs nd b,tg_cons]
    lia
theorem tg_one {b:Nat} {w:Int} {G:Int→Int} (f:List (Int×Int)):tg (oneMore f b w) G=tg f fun x=>ns (fun (d:Nat)=>G (x+(d:Int)*w)) b:=by
  have:=tg_more (b:=b) (w:=w) (G:=G) f [] (by simp [keys])
  have e:tg [] G=0:=rfl
  rw [e,Int.zero_add] at this
  exact this
noncomputable def ws1 (b d:Nat) (row:List Int):Int:=(Ma.wts b d row.length row).sum
theorem dws_up (b d e L:Nat) (he:e<b):Ma.dws b (d*b+e) (L+1) (L+1)=Ma.dws b d L L++[e]:=by
  rw [Ma.dws_succ]
  congr 1
  · unfold Ma.dws
    apply List.map_congr_left
    intro j hj
    have hj':=List.mem_range.mp hj
    have e1:L+1 - 1 - j=(L - 1 - j)+1:=by lia
    rw [e1,Nat.pow_succ',← Nat.div_div_eq_div_mul]
    have e2:(d*b+e) / b=d:=by
      rw [Nat.mul_comm d b,Nat.mul_add_div (by lia),Nat.div_eq_of_lt he,Nat.add_zero]
    rw [e2]
  · have e1:L+1 - 1 - L=0:=by lia
    rw [e1,Nat.pow_zero,Nat.div_one,Nat.mul_comm d b,Nat.mul_add_mod,Nat.mod_eq_of_lt he]
theorem ws1_up (b d e:Nat) (row:List Int) (w:Int) (he:e<b):ws1 b (d*b+e) (row++[w])=ws1 b d row+e*w:=by
  unfold ws1 Ma.wts
  rw [List.length_append,List.length_singleton,dws_up b d e row.length he,List.zipWith_append (by rw [Ma.dws_len]),List.sum_append]
  simp
theorem ways_all (b:Nat) (G:Int→Int) (row:List Int):ns (fun d=>G (ws1 b d row)) (b ^ row.length)=tg (waysW b row) G:=by
  have key:∀ (n:Nat) (row:List Int),row.length=n→∀ G:Int→Int,ns (fun d=>G (ws1 b d row)) (b ^ row.length)=tg (waysW b row) G:=fun n=>by
    induction n with
    | zero =>
      intro row h G
      have:row=[]:=List.eq_nil_of_length_eq_zero h
      subst this
      simp [ns,tg,waysW,ws1,Ma.wts]
    | succ n ih =>
      intro row h G
      obtain ⟨r,w,rfl⟩:∃ r w,row=r++[w]:=by
        refine ⟨row.dropLast,row.getLast (by intro z;rw [z] at h;simp at h),?_⟩
        exact (List.dropLast_concat_getLast _).symm
      have hr:r.length=n:=by simpa using h
      have e1:waysW b (r++[w])=oneMore (waysW b r) b w:=by
        unfold waysW
        rw [List.foldl_append]
        rfl
      rw [e1,tg_one,← ih r hr,List.length_append,List.length_singleton,Nat.pow_succ,ns_two]
      apply ns_congr
      intro d _
      apply ns_congr
      intro e he
      rw [ws1_up b d e r w he]
  exact key row.length row rfl G
theorem dws_parts (b d m p L:Nat) (hb:0<b) (hm:m<b ^ L):Ma.dws b (d*b ^ L+m) (p+L) (p+L)=Ma.dws b d p p++Ma.dws b m L L:=by
  have gen:∀ i,i≤L→Ma.dws b (d*b ^ L+m) (p+L) (p+i)=Ma.dws b d p p++Ma.dws b m L i:=fun i=>by
    induction i with
    | zero =>
      intro _
      unfold Ma.dws
      simp only [Nat.add_zero,List.range_zero,List.map_nil,List.append_nil]
      apply List.map_congr_left
      intro j hj
      have hj':=List.mem_range.mp hj
      have e1:p+L - 1 - j=(p - 1 - j)+L:=by lia
      rw [e1,Nat.pow_add,Nat.mul_comm (b ^ (p - 1 - j)),← Nat.div_div_eq_div_mul]
      have e2:(d*b ^ L+m) / b ^ L=d:=by
        rw [Nat.mul_comm d,Nat.mul_add_div (Nat.pow_pos hb),Nat.div_eq_of_lt hm,Nat.add_zero]
      rw [e2]
    | succ i ih =>
      intro hi
      rw [← Nat.add_assoc,Ma.dws_succ,Ma.dws_succ,ih (by lia),List.append_assoc]
      congr 3
      have e1:p+L - 1 - (p+i)=L - 1 - i:=by lia
      rw [e1]
      have e3:b ^ L=b ^ (L - 1 - i)*b*b ^ i:=by
        rw [← Nat.pow_succ,← Nat.pow_add]
        congr 1
        lia
      have e4:d*b ^ L+m=b ^ (L - 1 - i)*(d*b ^ i*b)+m:=by
        rw [e3]
        congr 1
        rw [Nat.mul_assoc (b ^ (L - 1 - i)),← Nat.mul_assoc d,Nat.mul_comm d,Nat.mul_assoc (b ^ (L - 1 - i))]
        congr 1
        rw [Nat.mul_comm b,← Nat.mul_assoc]
      rw [e4,Nat.mul_add_div (Nat.pow_pos hb),Nat.add_comm,Nat.add_mul_mod_self_right]
  exact gen L (Nat.le_refl _)
noncomputable abbrev sumsN (b n:Nat) (ps:List Nat) (ws:List Int):List Int:=Ma.psums ps (Ma.wts b n ps.sum ws)
theorem sums_cons {b d m p:Nat} {ps:List Nat} {ws:List Int} (hb:0<b) (hm:m<b ^ ps.sum) (hw:ws.length=p+ps.sum):sumsN b (d*b ^ ps.sum+m) (p::ps) ws=ws1 b d (ws.take p)::sumsN b m ps (ws.drop p):=by
  have hl:(ws.take p).length=p:=by rw [List.length_take];lia
  have e:Ma.wts b (d*b ^ ps.sum+m) (p::ps).sum ws=Ma.wts b d p (ws.take p)++Ma.wts b m ps.sum (ws.drop p):=by
    unfold Ma.wts
    rw [List.sum_cons,dws_parts b d m p ps.sum hb hm]
    conv=>lhs;rw [← List.take_append_drop p ws]
    rw [List.zipWith_append (by rw [Ma.dws_len,hl])]
  show Ma.psums (p::ps) (Ma.wts b (d*b ^ ps.sum+m) (p::ps).sum ws)=_
  rw [e]
  have l1:(Ma.wts b d p (ws.take p)).length=p:=Ma.wts_len _ _ _ _ hl
  unfold Ma.psums
  rw [Ma.cuts,List.map_cons]
  congr 1
  · rw [List.take_left' l1]
    unfold ws1
    rw [hl]
  · rw [List.drop_left' l1]
    rfl
noncomputable def tr (b:Nat):List (List Int)→(List Int→Int)→Int
  | [],F=>F []
  | row::rows,F=>tg (waysW b row) fun x=>tr b rows fun v=>F (x::v)
theorem all_tr {b:Nat} (hb:0<b):∀ (ps:List Nat) (ws:List Int) (F:List Int→Int),ws.length=ps.sum→ns (fun n=>F (sumsN b n ps ws)) (b ^ ps.sum)=tr b (Ma.cuts ps ws) F
  | [],ws,F,_=>by
    show ns _ (b ^ 0)=F []
    rw [Nat.pow_zero]
    simp only [ns,Int.zero_add]
    rfl
  | p::ps,ws,F,h=>by
    rw [List.sum_cons] at h
    have hl:(ws.take p).length=p:=by rw [List.length_take];lia
    rw [List.sum_cons,Nat.pow_add,ns_two,Ma.cuts,tr,← ways_all,hl]
    apply ns_congr
    intro d _
    rw [← all_tr hb ps (ws.drop p) _ (by rw [List.length_drop];lia)]
    apply ns_congr
    intro m hm
    rw [sums_cons hb hm h]
theorem tg_congr {f:List (Int×Int)} {G H:Int→Int} (h:∀ x,G x=H x):tg f G=tg f H:=by
  unfold tg
  congr 1
  exact List.map_congr_left fun p _=>by rw [h]
theorem tr_congr {b:Nat}:∀ {rows:List (List Int)} {F G:List Int→Int},(∀ v,v.length=rows.length→F v=G v)→tr b rows F=tr b rows G
  | [],_,_,h=>h [] rfl
  | _::rows,_,_,h=>tg_congr fun x=>tr_congr fun v hv=>h (x::v) (by simp [hv])
theorem tg_mul (c:Int) (f:List (Int×Int)) (G:Int→Int):tg f (fun x=>c*G x)=c*tg f G:=by
  induction f with
  | nil=>simp [tg]
  | cons p f ih=>rw [tg_cons,tg_cons,ih,Int.mul_add,← Int.mul_assoc,← Int.mul_assoc,Int.mul_comm p.2 c]
theorem tg_sub (f:List (Int×Int)) (G H:Int→Int):tg f (fun x=>G x - H x)=tg f G - tg f H:=by
  induction f with
  | nil=>simp [tg]
  | cons p f ih=>rw [tg_cons,tg_cons,tg_cons,ih,Int.mul_sub];lia
theorem tg_plus (f:List (Int×Int)) (G H:Int→Int):tg f (fun x=>G x+H x)=tg f G+tg f H:=by
  induction f with
  | nil=>simp [tg]
  | cons p f ih=>rw [tg_cons,tg_cons,tg_cons,ih,Int.mul_add];lia
theorem tr_mul {b:Nat} (c:Int):∀ (rows:List (List Int)) (F:List Int→Int),tr b rows (fun v=>c*F v)=c*tr b rows F
  | [],_=>rfl
  | row::rows,F=>by
    show tg _ _=c*tg _ _
    rw [← tg_mul]
    exact tg_congr fun x=>tr_mul c rows _
theorem tr_sub {b:Nat}:∀ (rows:List (List Int)) (F G:List Int→Int),tr b rows (fun v=>F v - G v)=tr b rows F - tr b rows G
  | [],_,_=>rfl
  | row::rows,F,G=>by
    show tg _ _=tg _ _ - tg _ _
    rw [← tg_sub]
    exact tg_congr fun x=>tr_sub rows _ _
theorem tr_plus {b:Nat}:∀ (rows:List (List Int)) (F G:List Int→Int),tr b rows (fun v=>F v+G v)=tr b rows F+tr b rows G
  | [],_,_=>rfl
  | row::rows,F,G=>by
    show tg _ _=tg _ _+tg _ _
    rw [← tg_plus]
    exact tg_congr fun x=>tr_plus rows _ _
theorem tr_zero {b:Nat} (rows:List (List Int)):tr b rows (fun _=>0)=0:=by
  have:=tr_mul (b:=b) 0 rows fun _=>0
  simp only [Int.zero_mul] at this
  exact this
theorem tr_sm {b:Nat} (rows:List (List Int)) (F:Int→List Int→Int) (a:Int):∀ n:Nat,tr b rows (fun v=>sm (fun t=>F t v) a n)=sm (fun t=>tr b rows (F t)) a n
  | 0=>tr_zero rows
  | n+1=>by
    simp only [sm]
    rw [tr_plus,tr_sm rows F a n]
noncomputable def fp (h:Int→Int) (v:List Int):Int:=v.foldl (fun m x=>m*h x) 1
theorem fold_out (h:Int→Int):∀ (v:List Int) (c:Int),v.foldl (fun m x=>m*h x) c=c*v.foldl (fun m x=>m*h x) 1
  | [],c=>by simp
  | x::v,c=>by
    rw [List.foldl_cons,List.foldl_cons,fold_out h v (c*h x),fold_out h v (1*h x),Int.one_mul,Int.mul_assoc]
theorem tr_prod {b:Nat} (h:Int→Int):∀ rows:List (List Int),tr b rows (fp h)=rows.foldl (fun m row=>m*tg (waysW b row) h) 1
  | []=>rfl
  | row::rows=>by
    have e:∀ (rs:List (List Int)) (c:Int),rs.foldl (fun m row=>m*tg (waysW b row) h) c=c*rs.foldl (fun m row=>m*tg (waysW b row) h) 1:=fun rs=>by
      induction rs with
      | nil=>intro c;simp
      | cons r rs ih=>intro c;rw [List.foldl_cons,List.foldl_cons,ih (c*_),ih (1*_),Int.one_mul,Int.mul_assoc]
    rw [List.foldl_cons,e rows,Int.one_mul,← tr_prod h rows]
    show tg (waysW b row) (fun x=>tr b rows fun v=>fp h (x::v))=_
    have e2:∀ x,tr b rows (fun v=>fp h (x::v))=tr b rows (fp h)*h x:=fun x=>by
      rw [Int.mul_comm,← tr_mul]
      exact tr_congr fun v _=>by
        unfold fp
        rw [List.foldl_cons,fold_out,Int.one_mul]
    rw [tg_congr e2,tg_mul,Int.mul_comm]
noncomputable def iv (a:Int) (n:Nat) (x:Int):Int:=if a≤x∧x<a+n then 1 else 0
theorem sm_delta (x a:Int):∀ n:Nat,sm (fun t=>if x=t then 1 else 0) a n=iv a n x
  | 0=>by
    unfold iv
    rw [if_neg (by lia)]
    rfl
  | n+1=>by
    simp only [sm]
    rw [sm_delta x a n]
    unfold iv
    by_cases h1:a≤x∧x<a+n
    · rw [if_pos h1,if_neg (by lia),if_pos (by push_cast;lia)]
      rfl
    · by_cases h2:x=a+n
      · rw [if_neg h1,if_pos h2,if_pos (by push_cast;lia)]
        rfl
      · rw [if_neg h1,if_neg h2,if_neg (by push_cast;lia)]
        rfl
theorem tg_delta {t:Int}:∀ {f:List (Int×Int)},(keys f).Nodup→tg f (fun x=>if x=t then 1 else 0)=gv f t
  | [],_=>rfl
  | (a,x)::f,nd=>by
    have nd1:a∉keys f:=(List.nodup_cons.mp nd).1
    have nd2:(keys f).Nodup:=(List.nodup_cons.mp nd).2
    rw [tg_cons,tg_delta nd2]
    unfold gv
    by_cases e:a=t
    · subst e
      rw [look_hit,look_none nd1,if_pos rfl]
      simp
    · rw [look_miss e,if_neg e]
      simp
theorem tg_sm (f:List (Int×Int)) (F:Int→Int→Int) (a:Int):∀ n:Nat,tg f (fun x=>sm (fun t=>F t x) a n)=sm (fun t=>tg f (F t)) a n
  | 0=>by
    have:=tg_mul 0 f fun _=>0
    simp only [Int.zero_mul] at this
    exact this
  | n+1=>by
    simp only [sm]
    rw [tg_plus,tg_sm f F a n]
theorem tg_iv {b:Nat} (row:List Int) (a:Int) (n:Nat):tg (waysW b row) (iv a n)=sm (fw b row) a n:=by
  have e:∀ x,iv a n x=sm (fun t=>if x=t then 1 else 0) a n:=fun x=>(sm_delta x a n).symm
  rw [tg_congr e,tg_sm (waysW b row) (fun t x=>if x=t then 1 else 0)]
  apply sm_congr
  intro t _ _
  exact tg_delta (ways_tw b row).nd
theorem tr_iv {b:Nat} (rows:List (List Int)) (a:Int) (n:Nat):tr b rows (fp (iv a n))=pr (fws b rows) a n:=by
  rw [tr_prod]
  unfold pr fws
  rw [List.foldl_map]
  congr 1
  funext m row
  rw [tg_iv]
end Mg
namespace Mg
open Me Mq
theorem tg_congrK {f:List (Int×Int)} {G H:Int→Int} (h:∀ x∈keys f,G x=H x):tg f G=tg f H:=by
  unfold tg
  congr 1
  exact List.map_congr_left fun p hp=>by rw [h p.1 (List.mem_map.mpr ⟨p,hp,rfl⟩)]
theorem tr_congrB {b:Nat} {lo hi:Int}:∀ {rows:List (List Int)} {F G:List Int→Int},(∀ row∈rows,∀ k∈keys (waysW b row),lo≤k∧k≤hi)→(∀ v,v.length=rows.length→(∀ x∈v,lo≤x∧x≤hi)→F v=G v)→tr b rows F=tr b rows G
  | [],_,_,_,h=>h [] rfl fun _ z=>by simp at z
  | row::rows,_,_,hk,h=>tg_congrK fun x hx=>tr_congrB (fun r hr=>hk r (by simp [hr])) fun v hv hb=>h (x::v) (by simp [hv]) fun y hy=>by
      rcases List.mem_cons.mp hy with rfl | hy
      · exact hk row (by simp) _ hx
      · exact hb y hy
theorem fp_all (q:Int→Prop) [DecidablePred q]:∀ v:List Int,fp (fun x=>if q x then 1 else 0) v=if ∀ x∈v,q x then 1 else 0
  | []=>by simp [fp]
  | x::v=>by
    have e:fp (fun x=>if q x then 1 else 0) (x::v)=(if q x then 1 else 0)*fp (fun x=>if q x then 1 else 0) v:=by
      unfold fp
      rw [List.foldl_cons,fold_out,Int.one_mul]
    rw [e,fp_all q v]
    by_cases h1:q x
    · by_cases h2:∀ y∈v,q y
      · rw [if_pos h1,if_pos h2,if_pos (by intro y hy;rcases List.mem_cons.mp hy with rfl | hy;exact h1;exact h2 y hy)];rfl
      · rw [if_pos h1,if_neg h2,if_neg (fun z=>h2 fun y hy=>z y (by simp [hy]))];rfl
    · have h3:¬ ∀ y∈x::v,q y:=fun z=>h1 (z x List.mem_cons_self)
      rw [if_neg h1,if_neg h3,Int.zero_mul]
noncomputable def sprd (v:List Int):Int:=Ma.maxL v - Ma.minL v
theorem all_in {v:List Int} (hv:0<v.length) {a:Int} {n:Nat}:(∀ x∈v,a≤x∧x<a+n)↔a≤Ma.minL v∧Ma.maxL v<a+n:=by
  obtain ⟨m1,m2⟩:=Ma.minL_spec v hv
  obtain ⟨m3,m4⟩:=Ma.maxL_spec v hv
  constructor
  · intro h
    exact ⟨(h _ m1).1,(h _ m3).2⟩
  · rintro ⟨h1,h2⟩ x hx
    have:=m2 x hx
    have:=m4 x hx
    lia
theorem fp_iv {v:List Int} (hv:0<v.length) (a:Int) (n:Nat):fp (iv a n) v=if a≤Ma.minL v∧Ma.maxL v<a+n then 1 else 0:=by
  have:=fp_all (fun x=>a≤x∧x<a+n) v
  have e:iv a n=fun x=>if a≤x∧x<a+(n:Int) then 1 else 0:=rfl
  rw [e,this]
  by_cases h:∀ x∈v,a≤x∧x<a+n
  · rw [if_pos h,if_pos ((all_in hv).mp h)]
  · rw [if_neg h,if_neg fun z=>h ((all_in hv).mpr z)]
theorem win {v:List Int} (hv:0<v.length) {d:Nat} {A:Int} {N:Nat} (h1:A≤Ma.minL v) (h2:Ma.minL v<A+N):(if sprd v≤d then 1 else 0)=sm (fun a=>fp (iv a (d+1)) v - fp (iv (a+1) d) v) A N:=by
  have e:sm (fun a=>fp (iv a (d+1)) v - fp (iv (a+1) d) v) A N=sm (fun a=>if Ma.minL v=a then (if sprd v≤d then 1 else 0) else 0) A N:=by
    apply sm_congr
    intro a _ _
    rw [fp_iv hv,fp_iv hv]
    unfold sprd
    obtain ⟨m1,m2⟩:=Ma.minL_spec v hv
    obtain ⟨m3,m4⟩:=Ma.maxL_spec v hv
    have mm:=m2 _ m3
    push_cast
    by_cases q1:Ma.minL v=a
    · rw [if_pos q1]
      by_cases q2:Ma.maxL v - Ma.minL v≤d
      · rw [if_pos (by lia),if_neg (by lia),if_pos q2];rfl
      · rw [if_neg (by lia),if_neg (by lia),if_neg q2];rfl
    · rw [if_neg q1]
      by_cases q2:a≤Ma.minL v∧Ma.maxL v<a+(d+1)
      · rw [if_pos q2,if_pos (by lia)];rfl
      · rw [if_neg q2,if_neg (by lia)];rfl
  rw [e]
  by_cases q:sprd v≤d
  · rw [if_pos q,sm_delta]
    unfold iv
    rw [if_pos ⟨h1,h2⟩]
  · rw [if_neg q]
    refine (sm_zero fun t _ _=>?_).symm
    split <;> rfl
section
variable {b:Nat} {ps:List Nat} {ws:List Int}
theorem cnt_near (hb:0<b) (hw:ws.length=ps.sum) (hp:0<ps.length) (d:Nat):ns (fun n=>if sprd (sumsN b n ps ws)≤d then 1 else 0) (b ^ ps.sum)=nearV b (Ma.cuts ps ws) d:=by
  rw [all_tr hb ps ws (fun v=>if sprd v≤d then 1 else 0) hw]
  have hne:0<(Ma.cuts ps ws).length:=by rw [Ma.cuts_len];exact hp
  rw [tr_congrB (G:=fun v=>sm (fun a=>fp (iv a (d+1)) v - fp (iv (a+1) d) v) (Ma.minL (los b (Ma.cuts ps ws))) (Ma.maxL (his b (Ma.cuts ps ws)) - Ma.minL (los b (Ma.cuts ps ws))+1).toNat) (lo:=Ma.minL (los b (Ma.cuts ps ws))) (hi:=Ma.maxL (his b (Ma.cuts ps ws)))
    (fun row hr k hk=>keys_in_lh hb hr k hk) fun v hv hx=>?_]
  · rw [tr_sm (Ma.cuts ps ws) fun a v=>fp (iv a (d+1)) v - fp (iv (a+1) d) v]
    unfold nearV
    apply sm_congr
    intro a _ _
    rw [tr_sub,tr_iv,tr_iv]
    rfl
  · have hv0:0<v.length:=by lia
    have m1:=hx _ (Ma.minL_spec v hv0).1
    exact win hv0 (by lia) (by lia)
end
noncomputable def cd (w:Nat→Bool) (k:Nat→Int):Nat→List (Int×Int)
  | 0=>[]
  | n+1=>if w n=true then addTo (cd w k n) (k n) 1 else cd w k n
structure Pos (f:List (Int×Int)):Prop where
  nd:(keys f).Nodup
  ps:∀ p∈f,1≤p.2
end Mg
namespace Mg
open Me Mq
section
variable {b:Nat} {ps:List Nat} {ws:List Int}
end
end Mg
namespace Mu
open Me Mg
noncomputable abbrev Tri:=List (Int×Int×Int)
noncomputable abbrev keyT (h:Tri):List Int:=h.map (·.1)
noncomputable def lookT (h:Tri) (k:Int):Option (Int×Int):=(h.find? fun q=>decide (q.1=k)).map (·.2)
noncomputable abbrev gT (h:Tri) (k:Int):Int×Int:=(lookT h k).getD (0,0)
noncomputable def TT (h:Tri) (A B:Int→Int):Int:=(h.map fun q=>q.2.1*A q.1+q.2.2*B q.1).sum
end Mu
namespace Mu
open Me Mg
end Mu
namespace Hv
open PySem L2
end Hv
namespace Mu
open Me Mg
end Mu
namespace Mu
open Me Mg
noncomputable def pq (b a pl o l:Nat):Nat:=if o+l≤pl then a / b ^ (pl - o - l) % b ^ l else if o≤pl then a % b ^ (pl - o)*b else 0
noncomputable def pn (pl e o l:Nat):Nat:=if o+l≤pl then 1 else if o≤pl then e else 1
end Mu
namespace Hv
open PySem L2
section
variable {P:Program} {w:World} {K:PySem.W.Frag} {mg:Str→Option Value} {base:Heap}
end
end Hv
namespace Mu
open Me Mg
noncomputable abbrev Stre:=Nat×Nat×Nat
noncomputable abbrev sLo (b S:Nat) (x:Stre):Nat:=x.1*b ^ (S - x.2.1)
noncomputable abbrev sN (b S:Nat) (x:Stre):Nat:=x.2.2*b ^ (S - x.2.1 - 1)
end Mu
namespace Hv
open PySem L2
section
variable {P:Program} {w:World} {K:PySem.W.Frag} {mg:Str→Option Value} {base:Heap}
end
end Hv
namespace Mu
open Me Mg
noncomputable def lo (b a pl o:Nat):Nat:=if o≤pl then a / b ^ (pl - o) else a*b ^ (o - pl)
noncomputable def cn (b pl e o:Nat):Nat:=if o≤pl then 1 else e*b ^ (o - pl - 1)
end Mu
namespace Hv
open PySem L2
end Hv
namespace Mu
open Me Mg
end Mu
namespace Mu
open Me Mg
noncomputable def wg (b:Nat) (row:List Int) (one:Int):Int×Int:=(ns (fun v=>if ws1 b v row=one then 1 else 0) (b ^ row.length),ns (fun v=>if ws1 b v row=one then (v:Int) else 0) (b ^ row.length))
noncomputable def lst (b:Nat) (rows:List (List Int)) (one:Int):List ((Int×Int)×Int):=rows.map fun row=>(wg b row one,((b ^ row.length:Nat):Int))
end Mu
namespace Mu
open Me Mg
end Mu
namespace Mu
open Me Mg
end Mu
namespace Mx
open Me Mg Mu
noncomputable def trG:List (List (Int×Int))→(List Int→Int)→Int
  | [],F=>F []
  | g::gs,F=>tg g fun x=>trG gs fun v=>F (x::v)
theorem trG_congrB {lo hi:Int}:∀ {gs:List (List (Int×Int))} {F G:List Int→Int},(∀ g∈gs,∀ k∈keys g,lo≤k∧k≤hi)→(∀ v,v.length=gs.length→(∀ x∈v,lo≤x∧x≤hi)→F v=G v)→trG gs F=trG gs G
  | [],_,_,_,h=>h [] rfl fun _ z=>by simp at z
  | g :: gs, _, _, hk, h => tg_congrK fun x hx => trG_congrB (fun r hr => hk r (by simp [hr])) fun v hv hb => h (x :: v) (by simp [hv]) fun y hy => by
      rcases List.mem_cons.mp hy with rfl | hy
      · exact hk g (by simp) _ hx
      · exact hb y hy
theorem trG_congr:∀ {gs:List (List (Int×Int))} {F G:List Int→Int},(∀ v,v.length=gs.length→F v=G v)→trG gs F=trG gs G
  | [],_,_,h=>h [] rfl
  | _::gs,_,_,h=>tg_congr fun x=>trG_congr fun v hv=>h (x::v) (by simp [hv])
theorem trG_mul (c:Int):∀ (gs:List (List (Int×Int))) (F:List Int→Int),trG gs (fun v=>c*F v)=c*trG gs F
  | [],_=>rfl
  | g::gs,F=>by
    show tg _ _=c*tg _ _
    rw [← tg_mul]
    exact tg_congr fun x=>trG_mul c gs _
theorem trG_sub:∀ (gs:List (List (Int×Int))) (F G:List Int→Int),trG gs (fun v=>F v - G v)=trG gs F - trG gs G
  | [],_,_=>rfl
  | g::gs,F,G=>by
    show tg _ _=tg _ _ - tg _ _
    rw [← tg_sub]
    exact tg_congr fun x=>trG_sub gs _ _
theorem trG_plus:∀ (gs:List (List (Int×Int))) (F G:List Int→Int),trG gs (fun v=>F v+G v)=trG gs F+trG gs G
  | [],_,_=>rfl
  | g::gs,F,G=>by
    show tg _ _=tg _ _+tg _ _
    rw [← tg_plus]
    exact tg_congr fun x=>trG_plus gs _ _
theorem trG_zero (gs:List (List (Int×Int))):trG gs (fun _=>0)=0:=by
  have:=trG_mul 0 gs fun _=>0
  simp only [Int.zero_mul] at this
  exact this
theorem trG_sm (gs:List (List (Int×Int))) (F:Int→List Int→Int) (a:Int):∀ n:Nat,trG gs (fun v=>Mq.sm (fun t=>F t v) a n)=Mq.sm (fun t=>trG gs (F t)) a n
  | 0=>trG_zero gs
  | n+1=>by
    simp only [Mq.sm]
    rw [trG_plus,trG_sm gs F a n]
theorem trG_prod (h:Int→Int):∀ gs:List (List (Int×Int)),trG gs (fp h)=gs.foldl (fun m g=>m*tg g h) 1
  | []=>rfl
  | g::gs=>by
    have e:∀ (rs:List (List (Int×Int))) (c:Int),rs.foldl (fun m g=>m*tg g h) c=c*rs.foldl (fun m g=>m*tg g h) 1:=fun rs=>by
      induction rs with
      | nil=>intro c;simp
      | cons r rs ih=>intro c;rw [List.foldl_cons,List.foldl_cons,ih (c*_),ih (1*_),Int.one_mul,Int.mul_assoc]
    rw [List.foldl_cons,e gs,Int.one_mul,← trG_prod h gs]
    show tg g (fun x=>trG gs fun v=>fp h (x::v))=_
    have e2:∀ x,trG gs (fun v=>fp h (x::v))=trG gs (fp h)*h x:=fun x=>by
      rw [Int.mul_comm,← trG_mul]
      exact trG_congr fun v _=>by
        unfold fp
        rw [List.foldl_cons,fold_out,Int.one_mul]
    rw [tg_congr e2,tg_mul,Int.mul_comm]
theorem tgG_iv {g:List (Int×Int)} (nd:(keys g).Nodup) (a:Int) (n:Nat):tg g (iv a n)=Mq.sm (fun t=>gv g t) a n:=by
  have e:∀ x,iv a n x=Mq.sm (fun t=>if x=t then 1 else 0) a n:=fun x=>(sm_delta x a n).symm
  rw [tg_congr e,tg_sm g (fun t x=>if x=t then 1 else 0)]
  apply Mq.sm_congr
  intro t _ _
  exact tg_delta nd
theorem trG_iv {gs:List (List (Int×Int))} (hg:∀ g∈gs,DOk g) (a:Int) (n:Nat):trG gs (fp (iv a n))=Mq.pr (fG gs) a n:=by
  rw [trG_prod]
  unfold Mq.pr fG
  rw [List.foldl_map]
  have key:∀ (rs:List (List (Int×Int))) (c:Int),(∀ g∈rs,DOk g)→rs.foldl (fun m g=>m*tg g (iv a n)) c=rs.foldl (fun m g=>m*Mq.sm (fun t=>gv g t) a n) c:=fun rs=>by
    induction rs with
    | nil=>intro c _;rfl
    | cons r rs ih =>
      intro c h
      rw [List.foldl_cons,List.foldl_cons,tgG_iv (h r (by simp)).nd]
      exact ih _ fun g hg=>h g (by simp [hg])
  exact key gs 1 hg
theorem near_trG {gs:List (List (Int×Int))} (hne:0<gs.length) (hg:∀ g∈gs,DOk g) (d:Nat):nearG gs d=trG gs fun v=>if sprd v≤d then 1 else 0:=by
  have B:=boundsG hne hg
  have nl:0<(losG gs).length:=by rw [losG,List.length_map];exact hne
  have nh:0<(hisG gs).length:=by rw [hisG,List.length_map];exact hne
  rw [trG_congrB (G:=fun v=>Mq.sm (fun a=>fp (iv a (d+1)) v - fp (iv (a+1) d) v) (Ma.minL (losG gs)) (Ma.maxL (hisG gs) - Ma.minL (losG gs)+1).toNat) (lo:=Ma.minL (losG gs)) (hi:=Ma.maxL (hisG gs))
    (fun g hgm k hk=>⟨?_,?_⟩) fun v hv hx=>?_]
  · rw [trG_sm gs fun a v=>fp (iv a (d+1)) v - fp (iv (a+1) d) v]
    unfold nearG
    apply Mq.sm_congr
    intro a _ _
    rw [trG_sub,trG_iv hg,trG_iv hg]
    rfl
  · have h1:=(Ma.minL_spec _ (hg g hgm).ne).2 k hk
    have h2:=(Ma.minL_spec _ nl).2 _ (List.mem_map.mpr ⟨g,hgm,rfl⟩)
    lia
  · have h1:=(Ma.maxL_spec _ (hg g hgm).ne).2 k hk
    have h2:=(Ma.maxL_spec _ nh).2 _ (List.mem_map.mpr ⟨g,hgm,rfl⟩)
    lia
  · have hv0:0<v.length:=by lia
    have m1:=hx _ (Ma.minL_spec v hv0).1
    exact win hv0 (by lia) (by lia)
end Mx
namespace Mx
open Me Mg Mu
theorem tg_perm {f g:List (Int×Int)} (h:f.Perm g) (F:Int→Int):tg f F=tg g F:=by
  unfold tg
  exact Me.sum_perm (h.map _)
end Mx
namespace Hv
open PySem L2
section
variable {P:Program} {w:World} {K:PySem.W.Frag} {mg:Str→Option Value} {base:Heap}
end
end Hv
namespace Hv
open PySem L2
section
variable {P:Program} {w:World} {K:PySem.W.Frag} {mg:Str→Option Value} {base:Heap}
end
end Hv
namespace Mx
open Me Mg Mu
noncomputable def nrI (b d:Nat) (ps:List Nat) (ws:List Int) (m:Nat):Int:=if sprd (sumsN b m ps ws)≤d then 1 else 0
noncomputable def nrN (b d:Nat) (ps:List Nat) (ws:List Int) (n:Nat):Int:=ns (nrI b d ps ws) n
end Mx
namespace Hv
open PySem L2
section
variable {P:Program} {w:World} {K:PySem.W.Frag} {mg:Str→Option Value} {base:Heap}
end
end Hv
namespace Hv
open PySem L2
noncomputable def spNeedMiss:Sp:=fun vs H Q _=>∃ d:Nat,vs=[.int d]∧Q .non H
section
variable {P:Program} {w:World} {K:PySem.W.Frag} {mg:Str→Option Value} {base:Heap}
theorem scNeedMiss:FnScope ["thing"] ["thing"] (defScope sNeedMiss):=⟨rfl,rfl,rfl,by decide +kernel,rfl,by decide +kernel,by decide +kernel⟩
theorem ok_needmiss {f:Addr} {fd:FuncData} (F:Fun K "need_miss" "need_miss" sNeedMiss f fd) (D1:Def P w K mg base 1 "is_whole" ["thing"] spWhole):FnOk P w K mg base CX0 2 f fd ["thing"] spNeedMiss:=by
  refine F.ok scNeedMiss (fun vs H Q E h=>?_) (fun cdv A outer s H vs Q E hr h=>?_)
  · obtain ⟨d,rfl,_⟩:=h;rfl
  · obtain ⟨d,rfl,k⟩:=h
    refine ⟨_,pss_one (ps_if (PW.pt (pw_or (pt_not (pt_val (pe_fn D1 hr (by rfl) (pa_cons (pv 0) pa_nil)))) (pw_or1 (pt_cmpR op_lt (pv 0) pe_int (nomark _))))) pss_never pss_nil),?_⟩
    refine ⟨_,rfl,.int d,rfl,.int _,_,rfl,iteF ⟨_,rfl,_,_,rfl,rfl,_,rfl,?_⟩⟩
    have e:decide ((d:Int)<0)=false:=decide_eq_false (by lia)
    rw [e]
    exact iteF k
end
end Hv
namespace Mx
open Me Mg Mu
end Mx
namespace Hv
open PySem L2
section
variable {P:Program} {w:World} {K:PySem.W.Frag} {mg:Str→Option Value} {base:Heap}
end
end Hv
namespace Hv
open PySem L2
section
variable {P:Program} {w:World} {K:PySem.W.Frag} {mg:Str→Option Value} {base:Heap}
end
end Hv
namespace Hv
open PySem L2
section
variable {P:Program} {w:World} {K:PySem.W.Frag} {mg:Str→Option Value} {base:Heap}
end
end Hv
namespace Hv
open PySem L2
section
variable {P:Program} {w:World} {K:PySem.W.Frag} {mg:Str→Option Value} {base:Heap}
end
end Hv
namespace Hv
open PySem L2
noncomputable def spLaw (K:PySem.W.Frag):Sp:=fun vs H Q _=>∃ (a:Addr) (ns:List Int),vs=[.ref a]∧SqL K H a (ns.map V.int)∧ns.length≤63∧∀ H',Q (.bl true) H'
noncomputable def frD (b:Nat) (ps:List Nat) (ws:List Int):PyData:=.tuple [.int b,.list ((ps.map fun (p:Nat)=>(p:Int)).map PyData.int),.list (ws.map PyData.int)]
theorem frD_lay (b:Nat) (ps:List Nat) (ws:List Int):(frD b ps ws).canLay0=true:=by
  simp only [frD,PyData.canLay0,PyData.canLayAll0,lays,Bool.and_self]
theorem frD_depth (b:Nat) (ps:List Nat) (ws:List Int):(frD b ps ws).depth≤60:=by
  simp only [frD,PyData.depth,PyData.depthAll,depths]
  decide
theorem FrAt.dat {P:Program} {w:World} {H:Hp} {f a c:Addr} {b:Nat} {ps:List Nat} {ws:List Int} (G:FrAt H f a c b ps ws):DatV P w H (.ref f) (frD b ps ws) :=
  datT G.tp (.cons (datI _) (.cons (datL G.hp (by rw [natV_eq];exact datIs _)) (.cons (datL G.hw (datIs _)) .nil)))
end Hv
namespace Mx
open Me Mg Mu
theorem trG_rows {b:Nat}:∀ {gs:List (List (Int×Int))} {rows:List (List Int)},PySem.Paired (fun g row=>List.Perm g (waysW b row)) gs rows→∀ F:List Int→Int,trG gs F=tr b rows F
  | _,_,.nil,_=>rfl
  | _,_,.cons r t,F=>by
    show tg _ _=tg _ _
    rw [tg_perm r]
    exact tg_congr fun x=>trG_rows t _
theorem near_all {b:Nat} (hb:0<b) {ps:List Nat} {ws:List Int} (lp:0<ps.length) (hw:ws.length=ps.sum) {gs:List (List (Int×Int))} (h:PySem.Paired (fun g row=>List.Perm g (waysW b row)) gs (Ma.cuts ps ws)) (ok:∀ g∈gs,DOk g) (d:Nat):nearG gs d=nrN b d ps ws (b ^ ps.sum):=by
  have hl:gs.length=ps.length:=by rw [h.length,Ma.cuts_len]
  rw [near_trG (by lia) ok,trG_rows h,← all_tr hb ps ws _ hw]
  rfl
theorem even_all {b:Nat} (hb:0<b) {ps:List Nat} {ws:List Int} (lp:0<ps.length) (hw:ws.length=ps.sum) {row:List Int} (h0:(Ma.cuts ps ws)[0]?=some row):tot (evenL b (Ma.cuts ps ws) (keys (waysW b row)))=nrN b 0 ps ws (b ^ ps.sum):=by
  rw [← near_zero hb h0,← cnt_near hb hw lp]
  rfl
theorem ways_dok {b:Nat} (hb:1≤b) (hb2:b≤16) {row:List Int} (hw:∀ x∈row,-9≤x∧x≤9) (hl:row.length≤6) {g:List (Int×Int)} (h:g.Perm (waysW b row)):DOk g:=by
  have okW:=ways_ok' (b:=b) (ws:=row) hw hb2
  have hk:(keys g).Perm (keys (waysW b row)):=h.map _
  refine ⟨by rw [hk.length_eq];exact keys_ne hb row,hk.nodup_iff.mpr okW.nd,fun k hk'=>?_,fun t=>?_⟩
  · have:=okW.bd k (hk.mem_iff.mp hk')
    lia
  · have e:=look_perm h okW.nd t
    have:=ways_val hb2 hl (ws:=row) t
    unfold gv
    rw [e]
    exact this
end Mx
namespace Hv
open PySem L2
section
variable {P:Program} {w:World} {K:PySem.W.Frag} {mg:Str→Option Value} {base:Heap}
end
end Hv
namespace Hv
open PySem L2
noncomputable def spCountNear:Sp:=fun vs H Q _=>∃ f a c b ps ws,∃ d:Nat,vs=[.ref f,.int d]∧FrAt H f a c b ps ws∧∀ H',Same H H'→Q (.int (Mx.nrN b d ps ws (b ^ ps.sum))) H'
noncomputable def spCountEven:Sp:=fun vs H Q _=>∃ f a c b ps ws,vs=[.ref f]∧FrAt H f a c b ps ws∧∀ H',Same H H'→Q (.int (Mx.nrN b 0 ps ws (b ^ ps.sum))) H'
theorem ways_split {H:Hp} {b:Nat}:∀ {qs:List Addr} {rows:List (List Int)},WaysAt H b qs rows→∃ gs:List (List (Int×Int)),WaysG H qs gs∧Paired (fun g row=>List.Perm g (Me.waysW b row)) gs rows
  | _,_,.nil=>⟨[],.nil,.nil⟩
  | _,_,.cons r t=>by
    obtain ⟨g,e,p⟩:=r
    obtain ⟨gs,h1,h2⟩:=ways_split t
    exact ⟨g::gs,.cons e h1,.cons p h2⟩
theorem paired_in {α β:Type} {F:α→β→Prop}:∀ {xs:List α} {ys:List β},Paired F xs ys→∀ x∈xs,∃ y,y∈ys∧F x y
  | _,_,.nil,_,h=>by simp at h
  | _,_,.cons r t,x,h=>by
    rcases List.mem_cons.mp h with rfl | h
    · exact ⟨_,by simp,r⟩
    · obtain ⟨y,hy,e⟩:=paired_in t x h
      exact ⟨y,by simp [hy],e⟩
section
variable {P:Program} {w:World} {K:PySem.W.Frag} {mg:Str→Option Value} {base:Heap}
theorem scCountNear:FnScope ["frame","d"] ["frame","d"] (defScope sCountNear):=⟨rfl,rfl,rfl,by decide +kernel,rfl,by decide +kernel,by decide +kernel⟩
theorem ok_countnear {f:Addr} {fd:FuncData} (F:Fun K "count_near" "count_near" sCountNear f fd) (D5:Def P w K mg base 5 "need_frame" ["thing"] spNeedFrame) (DM:Def P w K mg base 2 "need_miss" ["thing"] spNeedMiss) (DW:Def P w K mg base 3 "ways_of_parts" ["frame"] spWaysParts)
    (DS:Def P w K mg base 2 "count_spread_within" ["ways_by_part","width"] spSpread):FnOk P w K mg base CX0 6 f fd ["frame","d"] spCountNear:=by
  refine F.ok scCountNear (fun vs H Q E h=>?_) (fun cdv A outer s H vs Q E hr h=>?_)
  · obtain ⟨g,a,c,b,ps,ws,d,rfl,_⟩:=h;rfl
  · obtain ⟨g,a,c,b,ps,ws,d,rfl,G,k⟩:=h
    have ok:=G.ok
    have b0:0<b:=by have:=ok.b2;lia
    have l2:=ok.l2
    have l4:=ok.l4
    refine ⟨_,pss_cons (ps_expr (pe_fn D5 hr (by rfl) (pa_cons (pv 0) pa_nil)))
      (pss_cons (ps_expr (pe_fn DM (hr.mono (by decide)) (by rfl) (pa_cons (pv 1) pa_nil)))
      (pss_one (ps_ret (pe_fn DS (hr.mono (by decide)) (by rfl) (pa_cons (pe_fn DW (hr.mono (by decide)) (by rfl) (pa_cons (pv 0) pa_nil)) (pa_cons (pv 1) pa_nil)))))),?_⟩
    refine ⟨_,rfl,g,a,c,b,ps,ws,rfl,G,fun H1 s1=>⟨_,rfl,d,rfl,?_⟩⟩
    refine ⟨_,rfl,g,a,c,b,ps,ws,rfl,G.keep s1,fun p qs H2 s2 hp h2 wa=>?_⟩
    obtain ⟨gs,wg,pg⟩:=ways_split wa
    have gl:gs.length=ps.length:=by rw [pg.length,Ma.cuts_len]
    have dok:∀ g∈gs,Me.DOk g:=fun g hg=>by
      obtain ⟨row,hrow,perm⟩:=paired_in pg g hg
      exact Mx.ways_dok b0 ok.b16 (fun y hy=>ok.wr y (Ma.cuts_mem hrow y hy)) (Ma.cuts_short (fun p hp=>(ok.pr p hp).2) hrow) perm
    refine ⟨_,rfl,p,qs,gs,d,rfl,h2,wg,by lia,by lia,dok,fun H' s'=>?_⟩
    rw [Mx.near_all b0 (by lia) ok.wl pg dok]
    exact k H' (s1.trans (s2.trans s'))
theorem scCountEven:FnScope ["frame"] ["frame"] (defScope sCountEven):=⟨rfl,rfl,rfl,by decide +kernel,rfl,by decide +kernel,by decide +kernel⟩
theorem ok_counteven {f:Addr} {fd:FuncData} (F:Fun K "count_even" "count_even" sCountEven f fd) (T:Txt mg) (DE:Def P w K mg base 6 "even_by_sums" ["frame"] spEvenBy):FnOk P w K mg base CX0 7 f fd ["frame"] spCountEven:=by
  refine F.ok scCountEven (fun vs H Q E h=>?_) (fun cdv A outer s H vs Q E hr h=>?_)
  · obtain ⟨g,a,c,b,ps,ws,rfl,_⟩:=h;rfl
  · obtain ⟨g,a,c,b,ps,ws,rfl,G,k⟩:=h
    have ok:=G.ok
    have b0:0<b:=by have:=ok.b2;lia
    have l2:=ok.l2
    refine ⟨_,pss_one (ps_ret (pe_svals rfl T.sum (by rfl) (pe_fn DE hr (by rfl) (pa_cons (pv 0) pa_nil)))),?_⟩
    refine ⟨_,rfl,g,a,c,b,ps,ws,rfl,G,fun p g' H1 hp s1 hp1 ⟨row,hrow,perm⟩=>⟨p,_,g'.map (·.2),rfl,hp1,(by simp [intsD]),?_⟩⟩
    have e:=Me.tot_perm perm
    show Q (.int (Me.tot g')) H1
    rw [e,Mx.even_all b0 (by lia) ok.wl hrow]
    exact k H1 s1
end
end Hv
namespace Mx
open Me Mg Mu
noncomputable def Mk (e:Nat→Int):Prop:=∀ i,e i=0∨e i=1
end Mx
namespace Mx
open Me Mg Mu
end Mx
namespace Ma
end Ma
namespace Mx
open Me Mg Mu
variable {b d e:Nat} {ps:List Nat} {ws:List Int} {m n:Nat}
end Mx
namespace Hv
open PySem L2
end Hv
namespace Mx
open Me Mg Mu
variable {b d e:Nat} {ps:List Nat} {ws:List Int} {m n:Nat}
end Mx
namespace Hv
open PySem L2
theorem FrAt.kps {H H':Hp} {f a c st:Addr} {b:Nat} {ps:List Nat} {ws:List Int} (G:FrAt H f a c b ps ws) (S:Store H st) (ha:a≠st) (hc:c≠st) (k:Kp [st] H H'):FrAt H' f a c b ps ws:=by
  refine ⟨k _ _ G.tp (fun z=>?_),k _ _ G.hp (by simpa using ha),k _ _ G.hw (by simpa using hc),G.ok⟩
  have z':f=st:=by simpa using z
  obtain ⟨x,y,w,e⟩:=S
  have:=G.tp
  rw [z',e] at this
  cases this
end Hv
namespace Hv
open PySem L2
theorem ne_int_self {i j:Int} (h:i=j):(!decide (V.int i=V.int j))=false:=by rw [h];simp
section
variable {H:Hp} {Q:VK} {E:XK} {f a c:Addr} {b d n k:Nat} {ps:List Nat} {ws:List Int}
end
section
variable {H:Hp} {Q:VK} {E:XK} {f a c:Addr} {b d n k:Nat} {ps:List Nat} {ws:List Int}
end
theorem same_kp {H H2 H3:Hp} {q:Addr} (s:Same H H2) (h:H q=none) (k:Kp [q] H2 H3):Same H H3:=fun b o e=>k b o (s b o e) (fun z=>by
  have z':b=q:=by simpa using z
  rw [z',h] at e;cases e)
end Hv
namespace L2
open PySem PySem.Spec PyProof.Rows
mutual
inductive Tree (H:Hp):V→PyData→Prop
  | non:Tree H .non .none
  | bl (b:Bool):Tree H (.bl b) (.bool b)
  | int (i:Int):Tree H (.int i) (.int i)
  | str (x:Str):Tree H (.str x) (.str x)
  | lst {a:Addr} {xs:List V} {ds:List PyData} (e:H a=some (.lst xs)) (r:Trees H xs ds):Tree H (.ref a) (.list ds)
  | tup {a:Addr} {xs:List V} {ds:List PyData} (e:H a=some (.tup xs)) (r:Trees H xs ds):Tree H (.ref a) (.tuple ds)
  | emp {a:Addr} (e:H a=some (.dK [])):Tree H (.ref a) (.dict [])
inductive Trees (H:Hp):List V→List PyData→Prop
  | nil:Trees H [] []
  | cons {x:V} {xs:List V} {d:PyData} {ds:List PyData} (h:Tree H x d) (t:Trees H xs ds):Trees H (x::xs) (d::ds)
end
mutual
theorem Tree.keep {H H':Hp} (s:Same H H'):∀ {x:V} {d:PyData},Tree H x d→Tree H' x d
  | _,_,.non=>.non
  | _,_,.bl b=>.bl b
  | _,_,.int i=>.int i
  | _,_,.str x=>.str x
  | _,_,.lst e r=>.lst (s _ _ e) (Trees.keep s r)
  | _,_,.tup e r=>.tup (s _ _ e) (Trees.keep s r)
  | _,_,.emp e=>.emp (s _ _ e)
theorem Trees.keep {H H':Hp} (s:Same H H'):∀ {xs:List V} {ds:List PyData},Trees H xs ds→Trees H' xs ds
  | _,_,.nil=>.nil
  | _,_,.cons h t=>.cons (Tree.keep s h) (Trees.keep s t)
end
section
variable {P:Program} {w:World} {H:Hp} {h:Heap}
theorem empty_reads {a:Addr} (ok:HOk P w H h) (e:H a=some (.dK [])):Reads h (.ref a) (.dict []) [a]:=by
  obtain ⟨_,_,vs,r,hd⟩:=dk_of ok e
  cases r
  obtain ⟨o,es,ep,ho,hx,hdat,_,hp,_⟩:=hd
  have e0:es.toList=[]:=by
    generalize es.toList=l at hp
    cases hp
    rfl
  exact Reads.dict (kvs:=[]) (as:=[]) (bs:=[]) ho hx.1 hdat (by rw [e0];exact .nil) (by rw [e0];exact .nil)
mutual
theorem Tree.reads (ok:HOk P w H h):∀ {x:V} {d:PyData},Tree H x d→∀ v,RelV x v→∃ as,Reads h v d as∧∀ b∈as,H b≠none
  | _,_,.non,v,r=>by cases r;exact ⟨_,.none,by simp⟩
  | _,_,.bl b,v,r=>by cases r;exact ⟨_,.bool b,by simp⟩
  | _,_,.int i,v,r=>by obtain ⟨t,rfl⟩:=r;exact ⟨_,.int i t,by simp⟩
  | _,_,.str x,v,r=>by obtain ⟨t,rfl⟩:=r;exact ⟨_,.str x t,by simp⟩
  | _,_,.lst (a:=a) e rs,v,r=>by
    cases r
    obtain ⟨_,its,n,rv,e1⟩:=ok a _ e
    obtain ⟨as,h1,h2⟩:=Trees.reads ok rs its rv
    refine ⟨_,.list e1 rfl rfl (by simpa using h1),fun b hb=>?_⟩
    rcases List.mem_cons.mp hb with rfl | hb
    · rw [e];simp
    · exact h2 b hb
  | _,_,.tup (a:=a) e rs,v,r=>by
    cases r
    obtain ⟨_,its,rv,o,e1,c,n,d⟩:=ok a _ e
    obtain ⟨as,h1,h2⟩:=Trees.reads ok rs its rv
    exact ⟨_,.tuple e1 c d (by simpa using h1),h2⟩
  | _,_,.emp (a:=a) e,v,r=>by
    cases r
    refine ⟨_,empty_reads ok e,fun b hb=>?_⟩
    have z:b=a:=by simpa using hb
    rw [z,e];simp
theorem Trees.reads (ok:HOk P w H h):∀ {xs:List V} {ds:List PyData},Trees H xs ds→∀ its,Vals xs its→∃ as,ReadsAll h its ds as∧∀ b∈as,H b≠none
  | _,_,.nil,its,r=>by cases r;exact ⟨_,.nil,by simp⟩
  | _,_,.cons q t,its,r=>by
    cases r with
    | cons r1 r2 =>
      obtain ⟨as,h1,h2⟩:=Tree.reads ok q _ r1
      obtain ⟨bs,h3,h4⟩:=Trees.reads ok t _ r2
      refine ⟨_,.cons h1 h3,fun b hb=>?_⟩
      rcases List.mem_append.mp hb with hb | hb
      · exact h2 b hb
      · exact h4 b hb
end
end
section
variable {X:Cx}
end
section
variable {X:Cx} {e:Expr} {te:TE}
end
end L2
namespace L2
open PySem PySem.Spec PyProof.Rows
section
variable {P:Program} {w:World} {H:Hp} {h:Heap}
mutual
theorem Tree.shows (ok:HOk P w H h):∀ {x:V} {d:PyData},Tree H x d→∀ v,RelV x v→d.showable=true→d.shown.length≤sizeLine→∃ bs,ReadAtMost h d.depth bs∧ReprK P w bs h d.depth v d.shown
  | _,_,.non,v,r,_,_=>by
    cases r
    refine ⟨[],(fun _ z=>nomatch z),?_⟩
    simp only [PyData.shown]
    exact ReprK.of_is ReprIs.none _ _ _
  | _,_,.bl b,v,r,_,_=>by
    cases r
    refine ⟨[],(fun _ z=>nomatch z),?_⟩
    simp only [PyData.shown]
    exact ReprK.of_is (ReprIs.bool b) _ _ _
  | _,_,.int i,v,r,hs,_=>by
    obtain ⟨t,rfl⟩:=r
    refine ⟨[],(fun _ z=>nomatch z),?_⟩
    simp only [PyData.shown]
    exact ReprK.of_is (ReprIs.int t (by simpa [PyData.showable] using hs)) _ _ _
  | _,_,.str x,v,r,_,hz=>by
    obtain ⟨t,rfl⟩:=r
    refine ⟨[],(fun _ z=>nomatch z),?_⟩
    simp only [PyData.shown] at hz⊢
    exact ReprK.of_is (ReprIs.str x t hz) _ _ _
  | _,_,.lst (a:=a) (ds:=ds) e rs,v,r,hs,hz=>by
    cases r
    have tr:Tree H (.ref a) (.list ds):=.lst e rs
    obtain ⟨as,rd,_⟩:=Tree.reads ok tr (.ref a) rfl
    obtain ⟨_,its,n,rv,e1⟩:=ok a _ e
    simp only [PyData.shown] at hz
    obtain ⟨bs,hb,hk⟩:=Trees.shows ok rs its rv (by simpa [PyData.showable] using hs) (fun t ht=>Nat.le_trans (listText_mem_le ht) hz)
    have far:a∉bs:=not_mem_of_deeper rd (by simp only [PyData.depth];lia) hb
    refine ⟨a::bs,ReadAtMost.cons rd (by simp only [PyData.depth];lia) hb,?_⟩
    simp only [PyData.depth,PyData.shown]
    cases its with
    | nil =>
      cases rv
      cases rs
      simp only [PyData.shownAll,listText_nil]
      exact ReprK.listEmpty e1 rfl rfl
    | cons u l=>exact ReprK.list e1 rfl rfl far (by simpa using hk.length_eq) (fun i y z=>hk.item i y (by simpa using z))
  | _,_,.tup (a:=a) (ds:=ds) e rs,v,r,hs,hz=>by
    cases r
    have tr:Tree H (.ref a) (.tuple ds):=.tup e rs
    obtain ⟨as,rd,_⟩:=Tree.reads ok tr (.ref a) rfl
    obtain ⟨_,its,rv,o,e1,c,n,d⟩:=ok a _ e
    simp only [PyData.shown] at hz
    obtain ⟨bs,hb,hk⟩:=Trees.shows ok rs its rv (by simpa [PyData.showable] using hs) (fun t ht=>Nat.le_trans (tupleText_mem_le ht) hz)
    have far:a∉bs:=not_mem_of_deeper rd (by simp only [PyData.depth];lia) hb
    refine ⟨a::bs,ReadAtMost.cons rd (by simp only [PyData.depth];lia) hb,?_⟩
    simp only [PyData.depth,PyData.shown]
    exact ReprK.tuple e1 c d far (by simpa using hk)
  | _,_,.emp (a:=a) e,v,r,_,_=>by
    cases r
    have rd:=empty_reads ok e
    obtain ⟨_,hS,vs,rk,hd⟩:=dk_of ok e
    cases rk
    obtain ⟨o,es,ep,ho,hx,hdat,_,hp,_⟩:=hd
    have e0:es.toList=[]:=by
      generalize es.toList=l at hp
      cases hp
      rfl
    refine ⟨[a],ReadAtMost.cons (n:=PyData.depthKv []) rd (by simp only [PyData.depth];lia) (fun _ z=>nomatch z),?_⟩
    simp only [PyData.depth,PyData.shown]
    have nil:ReprAllK P w [] h (PyData.depthKv []) [] (PyData.shownAll []):=by simp only [PyData.shownAll];exact .nil
    refine ReprK.dict ho hx.1 hdat hS (by simp) ?_
    have z:=ReprEntriesK.of_two (prog:=P) (w:=w) (as:=[]) (h₀:=h) (d:=PyData.depthKv []) es.toList [] [] (by rw [e0];exact nil) (by rw [e0];exact nil)
    simpa [PyData.shownKv] using z
theorem Trees.shows (ok:HOk P w H h):∀ {xs:List V} {ds:List PyData},Trees H xs ds→∀ its,Vals xs its→PyData.showableAll ds=true→(∀ t∈PyData.shownAll ds,t.length≤sizeLine)→
    ∃ bs,ReadAtMost h (PyData.depthAll ds) bs∧ReprAllK P w bs h (PyData.depthAll ds) its (PyData.shownAll ds)
  | _,_,.nil,its,r,_,_=>by
    cases r
    exact ⟨[],(fun _ z=>nomatch z),by simp only [PyData.shownAll];exact .nil⟩
  | _,_,.cons q t,its,r,hs,hz=>by
    cases r with
    | cons r1 r2 =>
      simp only [PyData.showableAll,Bool.and_eq_true] at hs
      simp only [PyData.shownAll,List.mem_cons,forall_eq_or_imp] at hz
      obtain ⟨b1,m1,k1⟩:=Tree.shows ok q _ r1 hs.1 hz.1
      obtain ⟨b2,m2,k2⟩:=Trees.shows ok t _ r2 hs.2 hz.2
      simp only [PyData.depthAll,PyData.shownAll]
      refine ⟨b1++b2,(m1.mono (Nat.le_max_left _ _)).append (m2.mono (Nat.le_max_right _ _)),?_⟩
      exact .cons ((k1.more fun b hb=>List.mem_append_left _ hb).level_le (Nat.le_max_left _ _)) (k2.more_le (fun b hb=>List.mem_append_right _ hb) (Nat.le_max_right _ _))
end
end
section
variable {X:Cx}
end
end L2
namespace L2
open PySem PySem.Spec PyProof.Rows
noncomputable def Off (D:List Addr) (H:Hp):Hp:=fun a=>if a∈D then none else H a
theorem off_at {D:List Addr} {H:Hp} {a:Addr} {o:HO} (h:H a=some o) (n:a∉D):Off D H a=some o:=by unfold Off;rw [if_neg n];exact h
theorem off_sub {D:List Addr} {H:Hp}:Same (Off D H) H:=fun a o h=>by
  unfold Off at h
  split at h
  · cases h
  · exact h
theorem off_kp {D:List Addr} {H H':Hp} (k:Hv.Kp D H H'):Same (Off D H) (Off D H'):=fun a o h=>by
  unfold Off at h⊢
  split at h
  · cases h
  · rename_i n
    rw [if_neg n]
    exact k a o h n
end L2
namespace Hv
open PySem L2
structure PP (D:List Addr) where
  holds:Hp→V→Prop
  per:∀ H H' v,Kp D H H'→holds H v→holds H' v
noncomputable abbrev Le {D:List Addr} (P P':PP D):Prop:=∀ H v,P.holds H v→P'.holds H v
noncomputable def inP (D:List Addr) (lo hi:Int):PP D:=⟨fun _ v=>∃ i,v=.int i∧lo≤i∧i≤hi,fun _ _ _ _ h=>h⟩
noncomputable def rfP (D:List Addr) (a:Addr):PP D:=⟨fun _ v=>v=.ref a,fun _ _ _ _ h=>h⟩
noncomputable def lsP {D:List Addr} (lo hi:Nat) (It:PP D):PP D:=⟨fun H v=>∃ a xs,v=.ref a∧H a=some (.lst xs)∧a∉D∧lo≤xs.length∧xs.length≤hi∧∀ x∈xs,It.holds H x,
  fun _ _ _ k ⟨a,xs,e,h,n,l1,l2,it⟩=>⟨a,xs,e,k _ _ h n,n,l1,l2,fun x hx=>It.per _ _ _ k (it x hx)⟩⟩
noncomputable def Cp {D:List Addr} (ps:List (Option (PP D))) (σ:St) (H:Hp):Prop:=Paired (fun (q:Option (PP D)) (o:Option V)=>∀ P,q=some P→∃ v,o=some v∧P.holds H v) ps σ
theorem Cp.per {D:List Addr} {H H':Hp} (k:Kp D H H'):∀ {ps:List (Option (PP D))} {σ:St},Cp ps σ H→Cp ps σ H'
  | _,_,.nil=>.nil
  | _,_,.cons h t=>.cons (fun P e=>let ⟨v,a,b⟩:=h P e;⟨v,a,P.per _ _ _ k b⟩) (Cp.per k t)
theorem Cp.get {D:List Addr} {H:Hp}:∀ {ps:List (Option (PP D))} {σ:St} {i:Nat} {P:PP D},Cp ps σ H→ps[i]?=some (some P)→∃ v,σ[i]?=some (some v)∧P.holds H v
  | _,_,_,_,.nil,e=>by simp at e
  | _,_,0,P,.cons h _,e=>by
    simp at e
    obtain ⟨v,a,b⟩:=h P e
    exact ⟨v,by simp [a],b⟩
  | _,_,i+1,P,.cons _ t,e=>by
    obtain ⟨v,a,b⟩:=Cp.get (i:=i) (P:=P) t (by simpa using e)
    exact ⟨v,by simpa using a,b⟩
section
variable {X:Cx} {d:Addr} {ps:List (Option (PP [d]))}
noncomputable def tT (d:Addr) (ps:List (Option (PP [d]))) (P:PP [d]):TE:=fun σ H Q=>Cp ps σ H∧Store H d∧∀ v H',Store H' d→Kp [d] H H'→P.holds H' v→Q v H'
noncomputable def tTs (d:Addr) (ps:List (Option (PP [d]))) (m:Nat) (It:PP [d]):TA:=fun σ H Q=>Cp ps σ H∧Store H d∧∀ vs H',Store H' d→Kp [d] H H'→vs.length=m→(∀ v∈vs,It.holds H' v)→Q vs H'
noncomputable abbrev ET (X:Cx) (d:Addr) (ps:List (Option (PP [d]))) (e:Expr) (P:PP [d]):Prop:=PE X e (tT d ps P)
theorem weak {e:Expr} {t t':TE} (h:PE X e t) (w:∀ σ H Q,t' σ H Q→t σ H Q):PE X e t':=fun pins s σ H Q I q=>h pins s σ H Q I (w σ H Q q)
theorem weakT {e:Expr} {t:TE} {P:PP [d]} (h:PE X e t) (w:∀ σ H Q,Cp ps σ H→Store H d→(∀ v H',Store H' d→Kp [d] H H'→P.holds H' v→Q v H')→t σ H Q):ET X d ps e P:=fun pins s σ H Q I q=>h pins s σ H Q I (w σ H Q q.1 q.2.1 q.2.2)
theorem weakTs {es:List Expr} {t:TA} {m:Nat} {It:PP [d]} (h:PA X es t) (w:∀ σ H Q,Cp ps σ H→Store H d→(∀ vs H',Store H' d→Kp [d] H H'→vs.length=m→(∀ v∈vs,It.holds H' v)→Q vs H')→t σ H Q):PA X es (tTs d ps m It):=fun pos pins s σ H Q I q=>h pos pins s σ H Q I (w σ H Q q.1 q.2.1 q.2.2)
variable {e a b:Expr} {es:List Expr} {pos:Pos} {P P':PP [d]}
theorem e_up (h:ET X d ps e P) (l:Le P P'):ET X d ps e P':=weakT h fun _ _ _ c k q=>⟨c,k,fun v H' D' k' hv=>q v H' D' k' (l _ _ hv)⟩
theorem e_val {v:V} (h:PE X e (tC v)) (hv:∀ H,P.holds H v):ET X d ps e P:=weakT h fun _ H _ c k q=>q v H k Kp.refl (hv H)
theorem e_var (i:Nat) (h:PE X e (tVar i)) (hi:ps[i]?=some (some P):=by rfl):ET X d ps e P:=weakT h fun σ H Q c k q=>by
  obtain ⟨v,e1,e2⟩:=c.get hi
  exact ⟨v,e1,q v H k Kp.refl e2⟩
noncomputable def notStar:Expr→Bool
  | .Starred ..=>false
  | _=>true
theorem star_cons {e:Expr} {es:List Expr} {env:Env} (h:notStar e=true):starEach (e::es) env=(false,eval e env)::starEach es env:=by
  cases e <;> first | rfl | (simp [notStar] at h)
theorem a_nil {It:PP [d]}:PA X [] (tTs d ps 0 It):=weakTs pa_nil fun _ H _ c k q=>q [] H k Kp.refl rfl (fun _ h=>by simp at h)
theorem a_cons {It:PP [d]} {m:Nat} (ha:ET X d ps e It) (hr:PA X es (tTs d ps m It)) (hs:starEach (e::es) X.env=(false,eval e X.env)::starEach es X.env:=by exact star_cons rfl):PA X (e::es) (tTs d ps (m+1) It) :=
  weakTs (pa_cons ha hr hs) fun σ H Q c k q=>by
    refine ⟨c,k,fun v1 H1 D1 k1 p1=>⟨c.per k1,D1,fun vs H2 D2 k2 hl p2=>q _ _ D2 (k1.trans k2) (by simp [hl]) fun v hv=>?_⟩⟩
    rcases List.mem_cons.mp hv with rfl | hv
    · exact It.per _ _ _ k2 p1
    · exact p2 v hv
theorem e_lst {It:PP [d]} {m:Nat} (h:PA X es (tTs d ps m It)) (hm:m≤100000:=by decide):ET X d ps (.List es pos) (lsP m m It):=weakT (pe_lst h) fun σ H Q c k q=>by
  refine ⟨c,k,fun vs H1 D1 k1 hl p1=>⟨sz (by lia),fun z hz'=>q _ _ (D1.keep (same_upd hz')) (k1.same (same_upd hz')) ⟨z,vs,rfl,upd_same,D1.off1 hz',by lia,by lia,fun u hu=>?_⟩⟩⟩
  exact It.per _ _ _ (Kp.of (same_upd hz')) (p1 u hu)
theorem e_ix {It:PP [d]} {l1 h1:Nat} {j:Int} (ha:ET X d ps a (lsP l1 h1 It)) (hb:ET X d ps b (inP _ 0 j)) (hj:j<l1:=by decide) (hs:PlainIx b:=by intro _ _;rfl):ET X d ps (.Subscript a b pos) It :=
  weakT (ixl ha hb hs) fun σ H Q c k q=>by
    refine ⟨c,k,fun v1 H1 D1 k1 p1=>⟨c.per k1,D1,fun v2 H2 D2 k2 p2=>?_⟩⟩
    obtain ⟨x,xs,rfl,hx,nx,a1,a2,itx⟩:=(lsP l1 h1 It).per _ _ _ k2 p1
    obtain ⟨i,rfl,i0,i1⟩:=p2
    obtain ⟨v,ev,hv⟩:=at_all (xs:=xs) (Pr:=It.holds H2) i0 (by lia) itx
    exact r_ixl hx ev (q _ _ D2 (k1.trans k2) hv)
theorem e_draw {x:Str} {q1:Pos} {kl:Nat} {n:Int} (D1:Def X.prog X.w X.K X.mg X.base kl x ["store","many"] spTake) (hr:Room kl X.A) (hg:Gl X x) (ha:ET X d ps a (rfP _ d)) (hb:ET X d ps b (inP _ n n)) (h0:0<n:=by decide) (h1:n<1073741824:=by decide) (hdb:(x==("__debug__":Str))=false:=by decide)
    (hs:starEach [a,b] X.env=(false,eval a X.env)::starEach [b] X.env:=by rfl) (hs2:starEach [b] X.env=(false,eval b X.env)::starEach [] X.env:=by rfl) (hpl:(backTo pos (starEach [b] X.env)).any (·.1)=false:=by rfl) :
    ET X d ps (.Call (.Name x q1) [a,b] [] pos) (inP _ 0 (n - 1)) :=
  weakT (pe_fn D1 hr hg (pa_cons ha (pa_cons hb pa_nil hs2) hs) hdb hs hpl) fun σ H Q c k q=>by
    refine ⟨c,k,fun v1 H1 D1 k1 p1=>⟨c.per k1,D1,fun v2 H2 D2 k2 p2=>?_⟩⟩
    obtain ⟨m,rfl,m0,m1⟩:=p2
    have em:m=n:=by lia
    subst em
    cases (show v1=.ref d from p1)
    exact ⟨d,m,rfl,D2,h0,h1,fun r H3 r0 r1 D3 k3=>q _ _ D3 ((k1.trans k2).trans k3) ⟨r,rfl,r0,by lia⟩⟩
end
end Hv
namespace Hv
open PySem L2
section
variable {X:Cx} {d:Addr} {ps:List (Option (PP [d]))} {e a b:Expr} {es:List Expr} {pos:Pos}
theorem e_int {i:Int} {j:_}:ET X d ps (.Constant (.int i) j pos) (inP _ i i):=e_val pe_int fun _=>⟨i,rfl,Int.le_refl _,Int.le_refl _⟩
theorem e_neg {i:Int} {j:_} {q1:Pos}:ET X d ps (.UnaryOp .USub (.Constant (.int i) j q1) pos) (inP _ (-i) (-i)):=weakT (pe_un un_neg pe_int) fun σ H Q c k q=>⟨i,rfl,q _ H k Kp.refl ⟨-i,rfl,Int.le_refl _,Int.le_refl _⟩⟩
end
end Hv
namespace Hv
open PySem L2
section
variable {X:Cx} {d:Addr} {ps:List (Option (PP [d]))} {e a b:Expr} {es:List Expr} {pos:Pos}
theorem e_add {l1 h1 l2 h2:Int} (ha:ET X d ps a (inP _ l1 h1)) (hb:ET X d ps b (inP _ l2 h2)):ET X d ps (.BinOp a .Add b pos) (inP _ (l1+l2) (h1+h2)):=weakT (pe_op op_add ha hb) fun σ H Q c k q=>by
  refine ⟨c,k,fun v1 H1 D1 k1 p1=>⟨c.per k1,D1,fun v2 H2 D2 k2 p2=>?_⟩⟩
  obtain ⟨i,rfl,x1,x2⟩:=p1
  obtain ⟨j,rfl,y1,y2⟩:=p2
  exact ⟨i,j,rfl,rfl,q _ _ D2 (k1.trans k2) ⟨_,rfl,by lia,by lia⟩⟩
theorem e_sub {l1 h1 l2 h2:Int} (ha:ET X d ps a (inP _ l1 h1)) (hb:ET X d ps b (inP _ l2 h2)):ET X d ps (.BinOp a .Sub b pos) (inP _ (l1 - h2) (h1 - l2)):=weakT (pe_op op_sub ha hb) fun σ H Q c k q=>by
  refine ⟨c,k,fun v1 H1 D1 k1 p1=>⟨c.per k1,D1,fun v2 H2 D2 k2 p2=>?_⟩⟩
  obtain ⟨i,rfl,x1,x2⟩:=p1
  obtain ⟨j,rfl,y1,y2⟩:=p2
  exact ⟨i,j,rfl,rfl,q _ _ D2 (k1.trans k2) ⟨_,rfl,by lia,by lia⟩⟩
theorem e_pow25 {j1 j2:_} {q1 q2:Pos}:ET X d ps (.BinOp (.Constant (.int 10) j1 q1) .Pow (.Constant (.int 25) j2 q2) pos) (inP _ 10000000000000000000000000 10000000000000000000000000):=weakT (pe_op op_pow pe_int pe_int) fun σ H Q c k q =>
  ⟨10,25,rfl,rfl,⟨by decide,by decide,by decide⟩,q _ H k Kp.refl ⟨_,rfl,by decide,by decide⟩⟩
end
end Hv
namespace Hv
open PySem L2
structure MDef (P:Program) (w:World) (K:PySem.W.Frag) (mg:Str→Option Value) (base:Heap) (k:Nat) (C:Addr) (m:Str) (ps:List Str) (sp:Sp):Prop where
  ex:∃ f fd,FnOk P w K mg base CX0 k f fd ps sp∧Meth K C m f∧Binds K fd ps []
structure CDef (P:Program) (w:World) (K:PySem.W.Frag) (mg:Str→Option Value) (base:Heap) (k:Nat) (x:Str) (C:Addr) (ps:List Str) (sp:Sp):Prop where
  ex:∃ f fd,FnOk P w K mg base CX0 k f fd ps sp∧Mk K C f∧mg x=some (.ref C)∧Binds K fd ps []
section
variable {X:Cx} {k:Nat} {C:Addr} {x m:Str} {ps:List Str} {sp:Sp} {e o:Expr} {es:List Expr} {t:TA} {ta:TE} {p pos apos:Pos}
theorem pe_mt {pl:Sem Bool} (c:Cls X.K C) (D:MDef X.prog X.w X.K X.mg X.base k C m ps sp) (hr:Room k X.A) (he:PE X o ta) (ha:PA X (e::es) t)
    (hst:starEach (e::es) X.env=(false,eval e X.env)::starEach es X.env:=by rfl) (hpl:(backTo pos (starEach es X.env)).any (·.1)=false:=by rfl)
    (ht:eval (.Call (.Attribute o m apos) (e::es) [] pos) X.env=(do
      let ov ← eval o X.env
      standAt apos.atName
      let (f,first) ← holding [ov] (getMethod ov m pl)
      callWith pos f first (backTo pos (starEach (e::es) X.env)) (backToKw pos (keywordEach [] X.env))):=by rfl) :
    PE X (.Call (.Attribute o m apos) (e::es) [] pos) (tMeth C m sp [] E0 ta t):=by
  obtain ⟨f,fd,G,h1,h2⟩:=D.ex
  exact pe_meth he c h1 G hr h2 .nil pass0 ha hst hpl ht
theorem pe_mt0 {pl:Sem Bool} (c:Cls X.K C) (D:MDef X.prog X.w X.K X.mg X.base k C m ps sp) (hr:Room k X.A) (he:PE X o ta)
    (ht:eval (.Call (.Attribute o m apos) [] [] pos) X.env=(do
      let ov ← eval o X.env
      standAt apos.atName
      let (f,first) ← holding [ov] (getMethod ov m pl)
      callWith pos f first (backTo pos (starEach [] X.env)) (backToKw pos (keywordEach [] X.env))):=by rfl) :
    PE X (.Call (.Attribute o m apos) [] [] pos) (tMeth C m sp [] E0 ta tNil):=by
  obtain ⟨f,fd,G,h1,h2⟩:=D.ex
  exact pe_meth0 he c h1 G hr h2 .nil pass0 ht
theorem pe_mk (D:CDef X.prog X.w X.K X.mg X.base k x C ps sp) (hr:Room (k+1) X.A) (hg:Gl X x) (ha:PA X (e::es) t) (hdb:(x==("__debug__":Str))=false:=by decide)
    (he:starEach (e::es) X.env=(false,eval e X.env)::starEach es X.env:=by rfl) (hpl:(backTo pos (starEach es X.env)).any (·.1)=false:=by rfl):PE X (.Call (.Name x p) (e::es) [] pos) (tMake C sp [] E0 t):=by
  obtain ⟨f,fd,G,h1,h2,h3⟩:=D.ex
  exact pe_make h1 G hr hg h2 h3 .nil pass0 ha hdb he hpl
end
end Hv
namespace Hv
open PySem L2
noncomputable abbrev AF:=Addr×Addr×Addr
noncomputable def spCopyK:Sp:=fun vs H Q _=>∃ (f a c:Addr) (b:Nat) (ps:List Nat) (ws:List Int),vs=[.ref f]∧FrAt H f a c b ps ws∧∀ (f' a' c':Addr) (H':Hp),Same H H'→FrAt H' f' a' c' b ps ws→H f'=none→H a'=none→H c'=none→a'≠c'→Q (.ref f') H'
noncomputable def stF (sl:Addr):List (Str×V):=putF "standing" (.ref sl) []
theorem stF_get {sl:Addr}:(stF sl).lookup ("standing":Str)=some (.ref sl):=by
  unfold stF
  rw [lookup_putF,if_pos rfl]
theorem stF_no {sl:Addr} {m:Str} (h:¬ m="standing"):(stF sl).lookup m=none:=by
  unfold stF
  rw [lookup_putF,if_neg h]
  rfl
structure KpAt (C:Addr) (H:Hp) (kp dx sl:Addr) (as:List AF) (b:Nat) (ps:List Nat) (wss:List (List Int)):Prop where
  ob:H kp=some (.ins C dx (stF sl))
  ls:H sl=some (.lst (as.map fun x=>V.ref x.1))
  len:as.length=wss.length
  each:∀ (i:Nat) (x:AF) (ws:List Int),as[i]?=some x→wss[i]?=some ws→FrAt H x.1 x.2.1 x.2.2 b ps ws
section
variable {C:Addr} {H H':Hp} {kp dx sl:Addr} {as:List AF} {b:Nat} {ps:List Nat} {wss:List (List Int)}
theorem KpAt.keep (S:KpAt C H kp dx sl as b ps wss) (s:Same H H'):KpAt C H' kp dx sl as b ps wss:=⟨s _ _ S.ob,s _ _ S.ls,S.len,fun i x ws h1 h2=>(S.each i x ws h1 h2).keep s⟩
theorem KpAt.last {ini:List (List Int)} {ws:List Int} (S:KpAt C H kp dx sl as b ps (ini++[ws])):∃ ai x,as=ai++[x]∧ai.length=ini.length∧FrAt H x.1 x.2.1 x.2.2 b ps ws∧atI (as.map fun x=>V.ref x.1) (-1)=some (V.ref x.1):=by
  have hne:as≠[]:=fun z=>by have:=S.len;rw [z] at this;simp at this
  refine ⟨as.dropLast,as.getLast hne,(List.dropLast_concat_getLast hne).symm,?_,?_,?_⟩
  · rw [List.length_dropLast,S.len];simp
  · refine S.each (as.length - 1) _ _ ?_ ?_
    · rw [← List.getLast?_eq_getElem?,List.getLast?_eq_some_getLast hne]
    · rw [S.len,List.length_append,List.length_singleton,Nat.add_sub_cancel,List.getElem?_append_right (Nat.le_refl _)];simp
  · have e:(as.map fun x=>V.ref x.1)=(as.dropLast.map fun x=>V.ref x.1)++[V.ref (as.getLast hne).1]:=by
      conv=>lhs;rw [← List.dropLast_concat_getLast hne]
      rw [List.map_append];rfl
    rw [e];exact atI_last _ _
theorem KpAt.push {ws:List Int} {x:AF} (S:KpAt C H kp dx sl as b ps wss) (G:FrAt H x.1 x.2.1 x.2.2 b ps ws) (hk:kp≠sl) (ho:∀ x'∈as++[x],sl≠x'.1∧sl≠x'.2.1∧sl≠x'.2.2):KpAt C (upd H sl (.lst ((as.map fun x=>V.ref x.1)++[V.ref x.1]))) kp dx sl (as++[x]) b ps (wss++[ws]):=by
  have mv:∀ {y:AF} {v:List Int},(sl≠y.1∧sl≠y.2.1∧sl≠y.2.2)→FrAt H y.1 y.2.1 y.2.2 b ps v→FrAt (upd H sl (.lst ((as.map fun x=>V.ref x.1)++[V.ref x.1]))) y.1 y.2.1 y.2.2 b ps v:=fun h g =>
    ⟨by rw [upd_ne h.1.symm];exact g.tp,by rw [upd_ne h.2.1.symm];exact g.hp,by rw [upd_ne h.2.2.symm];exact g.hw,g.ok⟩
  refine ⟨by rw [upd_ne hk];exact S.ob,by rw [upd_same,List.map_append];rfl,by simp [S.len],fun i y v h1 h2=>?_⟩
  by_cases hi:i<as.length
  · rw [List.getElem?_append_left hi] at h1
    rw [List.getElem?_append_left (by rw [← S.len];exact hi)] at h2
    exact mv (ho y (List.mem_append_left _ (List.mem_of_getElem? h1))) (S.each i y v h1 h2)
  · have hl:=(List.getElem?_eq_some_iff.mp h1).1
    rw [List.length_append,List.length_singleton] at hl
    have e:i=as.length:=by lia
    subst e
    rw [List.getElem?_append_right (Nat.le_refl _)] at h1
    rw [S.len,List.getElem?_append_right (Nat.le_refl _)] at h2
    simp at h1 h2
    subst h1;subst h2
    exact mv (ho x (List.mem_append_right _ (List.mem_singleton.mpr rfl))) G
theorem KpAt.sl_off (S:KpAt C H kp dx sl as b ps wss) (hne:as≠[]):kp≠sl∧∀ x'∈as,sl≠x'.1∧sl≠x'.2.1∧sl≠x'.2.2:=by
  refine ⟨fun z=>(by have h1:=S.ob;rw [z,S.ls] at h1;cases h1),fun x hx=>?_⟩
  obtain ⟨i,hi⟩:=List.getElem?_of_mem hx
  have hl:i<wss.length:=by rw [← S.len];exact (List.getElem?_eq_some_iff.mp hi).1
  have G:=S.each i x _ hi (List.getElem?_eq_getElem hl)
  have l2:=G.ok.l2
  have hwl:=G.ok.wl
  have hsm:=G.ok.sum
  obtain ⟨x0,r,rfl⟩:=List.exists_cons_of_ne_nil hne
  refine ⟨fun z=>?_,fun z=>?_,fun z=>?_⟩
  · have h1:=G.tp;rw [← z,S.ls] at h1;cases h1
  · have h1:=G.hp;rw [← z,S.ls] at h1
    cases ps with
    | nil=>simp at l2
    | cons p q=>simp [natV] at h1
  · have h1:=G.hw;rw [← z,S.ls] at h1
    generalize wss[i]=ww at h1 hwl hsm
    cases ww with
    | nil=>simp at hwl;lia
    | cons p q=>simp at h1
theorem KpAt.pop {ws:List Int} {ai:List AF} {x:AF} (S:KpAt C H kp dx sl (ai++[x]) b ps (wss++[ws])) (hne:ai≠[]):KpAt C (upd H sl (.lst (ai.map fun x=>V.ref x.1))) kp dx sl ai b ps wss:=by
  have ⟨o1,o2⟩:=S.sl_off (by simp)
  have hl:ai.length=wss.length:=by have:=S.len;simp at this;exact this
  refine ⟨by rw [upd_ne o1];exact S.ob,upd_same,hl,fun i y v h1 h2=>?_⟩
  have hi:=(List.getElem?_eq_some_iff.mp h1).1
  have g:=S.each i y v (by rw [List.getElem?_append_left hi];exact h1) (by rw [List.getElem?_append_left (by lia)];exact h2)
  have h:=o2 y (List.mem_append_left _ (List.mem_of_getElem? h1))
  exact ⟨by rw [upd_ne h.1.symm];exact g.tp,by rw [upd_ne h.2.1.symm];exact g.hp,by rw [upd_ne h.2.2.symm];exact g.hw,g.ok⟩
end
noncomputable abbrev evN (b:Nat) (ps:List Nat) (ws:List Int):Int:=Mx.nrN b 0 ps ws (b ^ ps.sum)
noncomputable def spWith:Sp:=fun vs H Q _=>∃ (f a c:Addr) (b:Nat) (ps:List Nat) (ws:List Int) (p:Nat) (wt:Int),vs=[.ref f,.int p,.int wt]∧FrAt H f a c b ps ws∧p<ws.length∧-9≤wt∧wt≤9∧∀ (f' a' c':Addr) (H':Hp),Same H H'→FrAt H' f' a' c' b ps (ws.set p wt)→H f'=none→H a'=none→H c'=none→Q (.ref f') H'
noncomputable def spInit (C:Addr):Sp:=fun vs H Q _=>∃ (kp dx f a c:Addr) (b:Nat) (ps:List Nat) (ws:List Int),vs=[.ref kp,.ref f]∧H kp=some (.ins C dx [])∧FrAt H f a c b ps ws∧∀ (sl:Addr) (x:AF) (H':Hp),H sl=none→H x.1=none→H x.2.1=none→H x.2.2=none→KpAt C H' kp dx sl [x] b ps [ws]→Kp [kp] H H'→Q .non H'
noncomputable def spWeigh (C:Addr):Sp:=fun vs H Q _=>∃ (kp dx sl:Addr) (as:List AF) (b:Nat) (ps:List Nat) (ini:List (List Int)) (ws:List Int) (p:Nat) (wt:Int),vs=[.ref kp,.int p,.int wt]∧KpAt C H kp dx sl as b ps (ini++[ws])∧p<ws.length∧-9≤wt∧wt≤9∧ini.length≤1000∧
  ∀ (t:Addr) (x:AF) (H':Hp),H t=none→H' t=some (.tup [.int (evN b ps ws),.int (evN b ps (ws.set p wt))])→H x.1=none→H x.2.1=none→H x.2.2=none→KpAt C H' kp dx sl (as++[x]) b ps (ini++[ws]++[ws.set p wt])→Kp [sl] H H'→Q (.ref t) H'
noncomputable def spUndo (C:Addr):Sp:=fun vs H Q _=>∃ (kp dx sl:Addr) (ai:List AF) (x:AF) (b:Nat) (ps:List Nat) (ini:List (List Int)) (ws wz:List Int),vs=[.ref kp]∧KpAt C H kp dx sl (ai++[x]) b ps (ini++[ws]++[wz])∧ini.length≤1000∧
  ∀ (t:Addr) (H':Hp),H t=none→H' t=some (.tup [.int (evN b ps wz),.int (evN b ps ws)])→KpAt C H' kp dx sl ai b ps (ini++[ws])→Kp [sl] H H'→Q (.ref t) H'
noncomputable def spFrameK (C:Addr):Sp:=fun vs H Q _=>∃ (kp dx sl:Addr) (as:List AF) (b:Nat) (ps:List Nat) (ini:List (List Int)) (ws:List Int),vs=[.ref kp]∧KpAt C H kp dx sl as b ps (ini++[ws])∧∀ (f' a' c':Addr) (H':Hp),Same H H'→FrAt H' f' a' c' b ps ws→H f'=none→H a'=none→H c'=none→Q (.ref f') H'
noncomputable def spNearK (C:Addr):Sp:=fun vs H Q _=>∃ (kp dx sl:Addr) (as:List AF) (b:Nat) (ps:List Nat) (ini:List (List Int)) (ws:List Int) (d:Nat),vs=[.ref kp,.int d]∧KpAt C H kp dx sl as b ps (ini++[ws])∧∀ H':Hp,Same H H'→Q (.int (Mx.nrN b d ps ws (b ^ ps.sum))) H'
noncomputable def spChanges (C:Addr):Sp:=fun vs H Q _=>∃ (kp dx sl:Addr) (as:List AF) (b:Nat) (ps:List Nat) (wss:List (List Int)),vs=[.ref kp]∧KpAt C H kp dx sl as b ps wss∧Q (.int ((wss.length:Int) - 1)) H
theorem ixN_nat {n p:Nat} (h:p<n):ixN n (p:Int)=some p:=by
  unfold ixN
  simp
  lia
section
variable {P:Program} {w:World} {K:PySem.W.Frag} {mg:Str→Option Value} {base:Heap} {C:Addr}
theorem scCopyOf:FnScope ["frame"] ["frame"] (defScope sCopyOf):=⟨rfl,rfl,rfl,by decide +kernel,rfl,by decide +kernel,by decide +kernel⟩
theorem ok_copyof {f:Addr} {fd:FuncData} (F:Fun K "copy_of" "copy_of" sCopyOf f fd) (T:Txt mg):FnOk P w K mg base CX0 1 f fd ["frame"] spCopyK:=by
  refine F.ok scCopyOf (fun vs H Q E h=>?_) (fun cdv A outer s H vs Q E hr h=>?_)
  · obtain ⟨f,a,c,b,ps,ws,rfl,_⟩:=h;rfl
  · obtain ⟨f,a,c,b,ps,ws,rfl,G,k⟩:=h
    have nd:=scCopyOf.nd
    refine ⟨_,(pss_one (ps_ret (pe_tup (pa_cons (ixt (pv 0) pe_int) (pa_cons (pe_callTy call_list_of (by rfl) T.list boot_list (pa_cons (ixt (pv 0) pe_int) pa_nil)) (pa_cons (pe_callTy call_list_of (by rfl) T.list boot_list (pa_cons (ixt (pv 0) pe_int) pa_nil)) pa_nil)))))),?_⟩
    refine ⟨_,rfl,_,_,_,_,rfl,rfl,SqT.of G.tp,rfl,⟨_,rfl,_,_,_,_,rfl,rfl,SqT.of G.tp,rfl,⟨a,_,rfl,.inl (SqL.of G.hp),fun a' ha'=>?_⟩⟩⟩
    have s1:=same_upd (o:=.lst (natV ps)) ha'
    have u1:(upd H a' (.lst (natV ps))) a'=_:=upd_same
    generalize upd H a' (.lst (natV ps))=H1 at s1 u1⊢
    refine ⟨_,rfl,_,_,_,_,rfl,rfl,SqT.of (s1 _ _ G.tp),rfl,⟨c,_,rfl,.inl (SqL.of (s1 _ _ G.hw)),fun c' hc'=>⟨sz (by simp),fun f' hf'=>?_⟩⟩⟩
    have s2:=same_upd (o:=.lst (ws.map V.int)) hc'
    have s3:=same_upd (o:=.tup [.int b,.ref a',.ref c']) hf'
    exact k f' a' c' _ (s1.trans (s2.trans s3)) ⟨upd_same,s3 _ _ (s2 _ _ u1),s3 _ _ upd_same,G.ok⟩ (s1.free (s2.free hf')) ha' (s1.free hc') (fun z=>by rw [← z,u1] at hc';cases hc')
theorem scWithWeight:FnScope ["frame","place","weight","changed"] ["frame","place","weight"] (defScope sWithWeight):=⟨rfl,rfl,rfl,by decide +kernel,rfl,by decide +kernel,by decide +kernel⟩
theorem ok_with {f:Addr} {fd:FuncData} (F:Fun K "with_weight" "with_weight" sWithWeight f fd) (T:Txt mg) (d_is_between:Def P w K mg base 2 "is_between" ["thing","least","greatest"] spBetw) (d_copy_of:Def P w K mg base 1 "copy_of" ["frame"] spCopyK):FnOk P w K mg base CX0 3 f fd ["frame","place","weight"] spWith:=by
  refine F.ok scWithWeight (fun vs H Q E h=>?_) (fun cdv A outer s H vs Q E hr h=>?_)
  · obtain ⟨f,a,c,b,ps,ws,p,wt,rfl,_⟩:=h;rfl
  · obtain ⟨f,a,c,b,ps,ws,p,wt,rfl,G,hp,w1,w2,k⟩:=h
    have nd:=scWithWeight.nd
    refine ⟨_,(pss_cons (ps_if (pt_not (pt_val (pe_fn d_is_between hr (by rfl) (pa_cons (pv 1) (pa_cons pe_int (pa_cons (pe_op op_sub (lenS T.len (by rfl) (ixt (pv 0) pe_int)) pe_int) pa_nil)))))) pss_never pss_nil)
      (pss_cons (ps_if (pt_not (pt_val (pe_fn d_is_between hr (by rfl) (pa_cons (pv 2) (pa_cons (pe_un un_neg pe_int) (pa_cons pe_int pa_nil)))))) pss_never pss_nil)
      (pss_cons (ps_set (i:=3) nd rfl (Or.inl rfl) (pe_fn d_copy_of (hr.mono (by decide)) (by rfl) (pa_cons (pv 0) pa_nil)))
      (pss_cons (ps_asg (pv 2) (pg_sub (ixt (pv 3) pe_int) (pv 1) set_list))
      (pss_one (ps_ret (pv 3))))))),?_⟩
    refine ⟨_,rfl,_,rfl,r_ixt G.tp rfl ⟨c,_,rfl,.inl (SqL.of G.hw),_,_,rfl,rfl,.int (p:Int),0,_,rfl,.int _,_,rfl,?_⟩⟩
    rw [show betw (.int (p:Int)) 0 ((((ws.map V.int).length:Nat):Int) - 1)=true by simp [betw];lia]
    refine iteF ⟨_,rfl,_,rfl,.int wt,-9,9,rfl,.int _,_,rfl,?_⟩
    rw [show betw (.int wt) (-9) 9=true by simp [betw];lia]
    refine iteF ⟨_,rfl,f,a,c,b,ps,ws,rfl,G,fun f' a' c' H1 s1 G1 nf na nc nac=>?_⟩
    refine ⟨_,rfl,_,rfl,_,_,_,_,rfl,rfl,SqT.of G1.tp,rfl,_,rfl,c',_,_,p,rfl,rfl,G1.hw,by rw [List.length_map];exact ixN_nat hp,?_⟩
    have e:(ws.map V.int).set p (V.int wt)=(ws.set p wt).map V.int:=by rw [List.map_set]
    have nfc:f'≠c':=fun z=>by have h1:=G1.tp;rw [z,G1.hw] at h1;cases h1
    refine ⟨_,rfl,k f' a' c' _ ?_ ⟨by rw [upd_ne nfc];exact G1.tp,by rw [upd_ne nac];exact G1.hp,by rw [upd_same,e],?_⟩ nf na nc⟩
    · intro y o hy
      rw [upd_ne (fun z=>by rw [z,nc] at hy;cases hy)]
      exact s1 y o hy
    · exact ⟨G.ok.b2,G.ok.b16,G.ok.l2,G.ok.l4,G.ok.pr,by rw [List.length_set];exact G.ok.wl,fun v hv=>by
        rcases List.mem_or_eq_of_mem_set hv with h | h
        · exact G.ok.wr v h
        · subst h;exact ⟨w1,w2⟩⟩
theorem scKeeperInit:FnScope ["self","frame"] ["self","frame"] (defScope sKeeperInit):=⟨rfl,rfl,rfl,by decide +kernel,rfl,by decide +kernel,by decide +kernel⟩
theorem ok_kinit {f:Addr} {fd:FuncData} (F:Fun K "__init__" "Keeper.__init__" sKeeperInit f fd) (nS:NoAttr K C "standing") (d_need_frame:Def P w K mg base 5 "need_frame" ["thing"] spNeedFrame) (d_copy_of:Def P w K mg base 1 "copy_of" ["frame"] spCopyK) (cl:Cls K C):FnOk P w K mg base CX0 6 f fd ["self","frame"] (spInit C):=by
  refine F.ok scKeeperInit (fun vs H Q E h=>?_) (fun cdv A outer s H vs Q E hr h=>?_)
  · obtain ⟨kp,dx,f,a,c,b,ps,ws,rfl,_⟩:=h;rfl
  · obtain ⟨kp,dx,f,a,c,b,ps,ws,rfl,hk,G,k⟩:=h
    have nd:=scKeeperInit.nd
    refine ⟨_,(pss_cons (ps_expr (pe_fn d_need_frame hr (by rfl) (pa_cons (pv 1) pa_nil)))
      (pss_one (ps_fld (pv 0) (pe_lst (pa_cons (pe_fn d_copy_of (hr.mono (by decide)) (by rfl) (pa_cons (pv 1) pa_nil)) pa_nil)) rfl))),?_⟩
    refine ⟨_,rfl,f,a,c,b,ps,ws,rfl,G,fun H1 s1=>?_⟩
    refine ⟨_,rfl,f,a,c,b,ps,ws,rfl,G.keep s1,fun f' a' c' H2 s2 G2 nf na nc nac=>⟨sz (by simp),fun sl hsl=>?_⟩⟩
    have s3:=same_upd (o:=.lst [V.ref f']) hsl
    have u3:(upd H2 sl (.lst [V.ref f'])) sl=_:=upd_same
    generalize upd H2 sl (.lst [V.ref f'])=H3 at s3 u3⊢
    have S3:=(s1.trans s2).trans s3
    have hk3:=S3 _ _ hk
    have G3:=G2.keep s3
    have nk:∀ {y:Addr} {o:HO},H y=none→y≠kp:=fun h z=>by rw [z,hk] at h;cases h
    refine ⟨_,rfl,kp,C,dx,[],rfl,hk3,cl,nS,by show 0<1000;decide,?_⟩
    refine k sl (f',a',c') _ ((s1.trans s2).free hsl) (s1.free nf) (s1.free na) (s1.free nc) ⟨upd_same,?_,rfl,?_⟩ ?_
    · rw [upd_ne (nk (o:=.lst []) ((s1.trans s2).free hsl))];exact u3
    · intro i x v h1 h2
      have hi:=(List.getElem?_eq_some_iff.mp h1).1
      have e:i=0:=by simp at hi;lia
      subst e
      simp at h1 h2
      subst h1;subst h2
      exact ⟨by rw [upd_ne (nk (o:=.lst []) (s1.free nf))];exact G3.tp,by rw [upd_ne (nk (o:=.lst []) (s1.free na))];exact G3.hp,by rw [upd_ne (nk (o:=.lst []) (s1.free nc))];exact G3.hw,G3.ok⟩
    · intro y o hy hn
      rw [upd_ne (fun z=>hn (by rw [z];exact List.mem_singleton.mpr rfl))]
      exact S3 y o hy
theorem scKeeperChanges:FnScope ["self"] ["self"] (defScope sKeeperChanges):=⟨rfl,rfl,rfl,by decide +kernel,rfl,by decide +kernel,by decide +kernel⟩
theorem ok_kchanges {f:Addr} {fd:FuncData} (F:Fun K "changes" "Keeper.changes" sKeeperChanges f fd) (T:Txt mg) (nS:NoAttr K C "standing") (cl:Cls K C):FnOk P w K mg base CX0 1 f fd ["self"] (spChanges C):=by
  refine F.ok scKeeperChanges (fun vs H Q E h=>?_) (fun cdv A outer s H vs Q E hr h=>?_)
  · obtain ⟨kp,dx,sl,as,b,ps,wss,rfl,_⟩:=h;rfl
  · obtain ⟨kp,dx,sl,as,b,ps,wss,rfl,S,k⟩:=h
    have nd:=scKeeperChanges.nd
    refine ⟨_,(pss_one (ps_ret (pe_op op_sub (lenS T.len (by rfl) (pe_fld (pv 0) rfl)) pe_int))),?_⟩
    refine ⟨_,rfl,kp,C,dx,_,_,rfl,S.ob,cl,nS,stF_get,sl,_,rfl,.inl (SqL.of S.ls),_,_,rfl,rfl,?_⟩
    rw [List.length_map,S.len]
    exact k
theorem scKeeperFrame:FnScope ["self"] ["self"] (defScope sKeeperFrame):=⟨rfl,rfl,rfl,by decide +kernel,rfl,by decide +kernel,by decide +kernel⟩
theorem ok_kframe {f:Addr} {fd:FuncData} (F:Fun K "frame" "Keeper.frame" sKeeperFrame f fd) (nS:NoAttr K C "standing") (d_copy_of:Def P w K mg base 1 "copy_of" ["frame"] spCopyK) (cl:Cls K C):FnOk P w K mg base CX0 2 f fd ["self"] (spFrameK C):=by
  refine F.ok scKeeperFrame (fun vs H Q E h=>?_) (fun cdv A outer s H vs Q E hr h=>?_)
  · obtain ⟨kp,dx,sl,as,b,ps,ini,ws,rfl,_⟩:=h;rfl
  · obtain ⟨kp,dx,sl,as,b,ps,ini,ws,rfl,S,k⟩:=h
    have nd:=scKeeperFrame.nd
    refine ⟨_,(pss_one (ps_ret (pe_fn d_copy_of hr (by rfl) (pa_cons (ixl (pe_fld (pv 0) rfl) (pe_un un_neg pe_int)) pa_nil)))),?_⟩
    obtain ⟨ai,x,rfl,hai,G,e⟩:=S.last
    refine ⟨_,rfl,kp,C,dx,_,_,rfl,S.ob,cl,nS,stF_get,_,rfl,r_ixl S.ls e ⟨_,_,_,b,ps,ws,rfl,G,fun f' a' c' H' s' G' nf na nc _=>k f' a' c' H' s' G' nf na nc⟩⟩
theorem scKeeperNear:FnScope ["self","d"] ["self","d"] (defScope sKeeperNear):=⟨rfl,rfl,rfl,by decide +kernel,rfl,by decide +kernel,by decide +kernel⟩
theorem ok_knear {f:Addr} {fd:FuncData} (F:Fun K "near" "Keeper.near" sKeeperNear f fd) (nS:NoAttr K C "standing") (d_count_near:Def P w K mg base 6 "count_near" ["frame","d"] spCountNear) (cl:Cls K C):FnOk P w K mg base CX0 7 f fd ["self","d"] (spNearK C):=by
  refine F.ok scKeeperNear (fun vs H Q E h=>?_) (fun cdv A outer s H vs Q E hr h=>?_)
  · obtain ⟨kp,dx,sl,as,b,ps,ini,ws,d,rfl,_⟩:=h;rfl
  · obtain ⟨kp,dx,sl,as,b,ps,ini,ws,d,rfl,S,k⟩:=h
    have nd:=scKeeperNear.nd
    refine ⟨_,(pss_one (ps_ret (pe_fn d_count_near hr (by rfl) (pa_cons (ixl (pe_fld (pv 0) rfl) (pe_un un_neg pe_int)) (pa_cons (pv 1) pa_nil))))),?_⟩
    obtain ⟨ai,x,rfl,hai,G,e⟩:=S.last
    exact ⟨_,rfl,kp,C,dx,_,_,rfl,S.ob,cl,nS,stF_get,_,rfl,r_ixl S.ls e ⟨_,rfl,_,_,_,b,ps,ws,d,rfl,G,fun H' s'=>k H' s'⟩⟩
theorem scKeeperWeigh:FnScope ["self","place","weight","earlier","later"] ["self","place","weight"] (defScope sKeeperWeigh):=⟨rfl,rfl,rfl,by decide +kernel,rfl,by decide +kernel,by decide +kernel⟩
theorem ok_kweigh {f:Addr} {fd:FuncData} (F:Fun K "weigh" "Keeper.weigh" sKeeperWeigh f fd) (nS:NoAttr K C "standing") (d_with_weight:Def P w K mg base 3 "with_weight" ["frame","place","weight"] spWith) (d_count_even:Def P w K mg base 7 "count_even" ["frame"] spCountEven) (cl:Cls K C):FnOk P w K mg base CX0 8 f fd ["self","place","weight"] (spWeigh C):=by
  refine F.ok scKeeperWeigh (fun vs H Q E h=>?_) (fun cdv A outer s H vs Q E hr h=>?_)
  · obtain ⟨kp,dx,sl,as,b,ps,ini,ws,p,wt,rfl,_⟩:=h;rfl
  · obtain ⟨kp,dx,sl,as,b,ps,ini,ws,p,wt,rfl,S,hp,w1,w2,hl,k⟩:=h
    have nd:=scKeeperWeigh.nd
    refine ⟨_,(pss_cons (ps_set (i:=3) nd rfl (Or.inl rfl) (ixl (pe_fld (pv 0) rfl) (pe_un un_neg pe_int)))
      (pss_cons (ps_set (i:=4) nd rfl (Or.inl rfl) (pe_fn d_with_weight (hr.mono (by decide)) (by rfl) (pa_cons (pv 3) (pa_cons (pv 1) (pa_cons (pv 2) pa_nil)))))
      (pss_cons (ps_expr (pe_bm PySem.F.plainAttrs_list PySem.F.slot_list_append PySem.F.type_list_append mt_append (pe_fld (pv 0) rfl) (pa_cons (pv 4) pa_nil)))
      (pss_one (ps_ret (pe_tup (pa_cons (pe_fn d_count_even hr (by rfl) (pa_cons (pv 3) pa_nil)) (pa_cons (pe_fn d_count_even hr (by rfl) (pa_cons (pv 4) pa_nil)) pa_nil)))))))),?_⟩
    obtain ⟨ai,x,e0,hai,G,e⟩:=S.last
    have hne:as≠[]:=by rw [e0];simp
    obtain ⟨o1,o2⟩:=S.sl_off hne
    refine ⟨_,rfl,kp,C,dx,_,_,rfl,S.ob,cl,nS,stF_get,_,rfl,r_ixl S.ls e ?_⟩
    refine ⟨_,rfl,_,rfl,_,rfl,_,_,_,b,ps,ws,p,wt,rfl,G,hp,w1,w2,fun f' a' c' H1 s1 G1 nf na nc=>?_⟩
    have S1:=S.keep s1
    have hs:∀ {y:Addr},H y=none→sl≠y:=fun h z=>by rw [← z,S.ls] at h;cases h
    refine ⟨_,rfl,kp,C,dx,_,_,rfl,S1.ob,cl,nS,stF_get,.inl ⟨rfl,_,SqL.of S1.ls⟩,_,rfl,sl,_,_,rfl,rfl,S1.ls,szl (by rw [List.length_map,S.len];simp;lia),?_⟩
    have S2:=S1.push (x:=(f',a',c')) G1 o1 (fun x' hx'=>by
      rcases List.mem_append.mp hx' with h | h
      · exact o2 x' h
      · rw [List.mem_singleton.mp h];exact ⟨hs nf,hs na,hs nc⟩)
    have K2:Kp [sl] H (upd H1 sl (.lst ((as.map fun x=>V.ref x.1)++[V.ref f']))):=fun y o hy hn=>by
      rw [upd_ne (fun z=>hn (by rw [z];exact List.mem_singleton.mpr rfl))]
      exact s1 y o hy
    have Gx:FrAt (upd H1 sl (.lst ((as.map fun x=>V.ref x.1)++[V.ref f']))) x.1 x.2.1 x.2.2 b ps ws:=by
      have h:=o2 x (by rw [e0];simp)
      have g:=G.keep s1
      exact ⟨by rw [upd_ne h.1.symm];exact g.tp,by rw [upd_ne h.2.1.symm];exact g.hp,by rw [upd_ne h.2.2.symm];exact g.hw,g.ok⟩
    have Gy:FrAt (upd H1 sl (.lst ((as.map fun x=>V.ref x.1)++[V.ref f']))) f' a' c' b ps (ws.set p wt) :=
      ⟨by rw [upd_ne (hs nf).symm];exact G1.tp,by rw [upd_ne (hs na).symm];exact G1.hp,by rw [upd_ne (hs nc).symm];exact G1.hw,G1.ok⟩
    generalize upd H1 sl (.lst ((as.map fun x=>V.ref x.1)++[V.ref f']))=H2 at S2 K2 Gx Gy⊢
    refine ⟨_,rfl,x.1,x.2.1,x.2.2,b,ps,ws,rfl,Gx,fun H3 s3=>?_⟩
    refine ⟨_,rfl,f',a',c',b,ps,_,rfl,Gy.keep s3,fun H4 s4=>⟨sz (by simp),fun t ht=>?_⟩⟩
    have s5:=same_upd (o:=.tup [.int (evN b ps ws),.int (evN b ps (ws.set p wt))]) ht
    have K4:Kp [sl] H H4:=(K2.same s3).same s4
    exact k t (f',a',c') _ (K4.free ht (fun z=>by rw [List.mem_singleton.mp z,(S2.keep (s3.trans s4)).ls] at ht;cases ht)) upd_same nf na nc (S2.keep ((s3.trans s4).trans s5)) (K4.same s5)
theorem scKeeperUndo:FnScope ["self","undone"] ["self"] (defScope sKeeperUndo):=⟨rfl,rfl,rfl,by decide +kernel,rfl,by decide +kernel,by decide +kernel⟩
theorem ok_kundo {f:Addr} {fd:FuncData} (F:Fun K "undo" "Keeper.undo" sKeeperUndo f fd) (nS:NoAttr K C "standing") (d_count_even:Def P w K mg base 7 "count_even" ["frame"] spCountEven) (cl:Cls K C) (m_changes:MDef P w K mg base 1 C "changes" ["self"] (spChanges C)):FnOk P w K mg base CX0 8 f fd ["self"] (spUndo C):=by
  refine F.ok scKeeperUndo (fun vs H Q E h=>?_) (fun cdv A outer s H vs Q E hr h=>?_)
  · obtain ⟨kp,dx,sl,ai,x,b,ps,ini,ws,wz,rfl,_⟩:=h;rfl
  · obtain ⟨kp,dx,sl,ai,x,b,ps,ini,ws,wz,rfl,S,hl,k⟩:=h
    have nd:=scKeeperUndo.nd
    refine ⟨_,(pss_cons (ps_if (pt_cmpR op_eq (pe_mt0 cl m_changes (hr.mono (by decide)) (pv 0)) pe_int (nomark _)) pss_never pss_nil)
      (pss_cons (ps_set (i:=1) nd rfl (Or.inl rfl) (pe_bm0 PySem.F.plainAttrs_list PySem.F.slot_list_pop PySem.F.type_list_pop mt_pop (pe_fld (pv 0) rfl)))
      (pss_one (ps_ret (pe_tup (pa_cons (pe_fn d_count_even hr (by rfl) (pa_cons (pv 1) pa_nil)) (pa_cons (pe_fn d_count_even hr (by rfl) (pa_cons (ixl (pe_fld (pv 0) rfl) (pe_un un_neg pe_int)) pa_nil)) pa_nil))))))),?_⟩
    have Gz:FrAt H x.1 x.2.1 x.2.2 b ps wz:=by
      have:=S.len
      simp at this
      refine S.each ai.length x wz (by simp) ?_
      rw [show ai.length=(ini++[ws]).length by simp;lia,List.getElem?_append_right (Nat.le_refl _)]
      simp
    have hla:ai.length=ini.length+1:=by have:=S.len;simp at this;lia
    have hne:ai≠[]:=fun z=>by rw [z] at hla;simp at hla
    obtain ⟨o1,o2⟩:=S.sl_off (by simp)
    refine ⟨_,rfl,kp,dx,_,rfl,S.ob,stF_no (by decide +kernel),kp,dx,sl,_,b,ps,_,rfl,S,rfl,_,rfl,?_⟩
    rw [decide_eq_false (by intro z;injection z with z;simp at z;lia)]
    refine iteF ?_
    have elast:((ai++[x]).map fun x=>V.ref x.1)[((ai++[x]).map fun x=>V.ref x.1).length - 1]?=some (V.ref x.1):=by simp
    have edrop:((ai++[x]).map fun x=>V.ref x.1).dropLast=ai.map fun x=>V.ref x.1:=by rw [List.map_append];simp
    refine ⟨_,rfl,kp,C,dx,_,_,rfl,S.ob,cl,nS,stF_get,.inl ⟨rfl,_,SqL.of S.ls⟩,sl,_,_,rfl,rfl,S.ls,elast,?_⟩
    rw [edrop]
    have S1:=S.pop hne
    have K1:Kp [sl] H (upd H sl (.lst (ai.map fun x=>V.ref x.1))):=fun y o hy hn=>by
      rw [upd_ne (fun z=>hn (by rw [z];exact List.mem_singleton.mpr rfl))]
      exact hy
    have h:=o2 x (by simp)
    have G1:FrAt (upd H sl (.lst (ai.map fun x=>V.ref x.1))) x.1 x.2.1 x.2.2 b ps wz:=⟨by rw [upd_ne h.1.symm];exact Gz.tp,by rw [upd_ne h.2.1.symm];exact Gz.hp,by rw [upd_ne h.2.2.symm];exact Gz.hw,Gz.ok⟩
    generalize upd H sl (.lst (ai.map fun x=>V.ref x.1))=H1 at S1 K1 G1⊢
    refine ⟨_,rfl,x.1,x.2.1,x.2.2,b,ps,wz,rfl,G1,fun H2 s2=>?_⟩
    have S2:=S1.keep s2
    obtain ⟨aj,y,e0,haj,Gy,ey⟩:=S2.last
    refine ⟨_,rfl,kp,C,dx,_,_,rfl,S2.ob,cl,nS,stF_get,_,rfl,r_ixl S2.ls ey ⟨y.1,y.2.1,y.2.2,b,ps,ws,rfl,Gy,fun H3 s3=>⟨sz (by simp),fun t ht=>?_⟩⟩⟩
    have s4:=same_upd (o:=.tup [.int (evN b ps wz),.int (evN b ps ws)]) ht
    have K3:Kp [sl] H H3:=(K1.same s2).same s3
    exact k t _ (K3.free ht (fun z=>by rw [List.mem_singleton.mp z,(S2.keep s3).ls] at ht;cases ht)) upd_same (S2.keep (s3.trans s4)) (K3.same s4)
end
end Hv
namespace L2
open PySem PySem.Spec PyProof.Rows
noncomputable def FlyAt (h0:Heap) (H:Hp) (h:Heap) (x:Addr) (C a0 fl:Value):Prop:=h0.get? x=none∧H x=none∧
  ∃ oe vs T oT ts,h.get? x=some oe∧(oe.cls=C∧vs[0]?=some a0∧oe.dict=none)∧oe.data=.fields vs∧vs[1]?=some (.ref T)∧h0.get? T=none∧H T=none∧T≠x∧h.get? T=some oT∧oT.data=.fields ts∧ts[3]?=some fl
noncomputable abbrev Fly (h0:Heap) (H:Hp) (h:Heap) (x:Addr) (C a0:Value):Prop:=FlyAt h0 H h x C a0 .none
structure Near (h0:Heap) (H:Hp) (fs:List Addr) (h h':Heap):Prop where
  keep:∀ b o,h.get? b=some o→b∉fs→h0.get? b≠none∨H b≠none→h'.get? b=some o
  slot:∀ b o,h.get? b=some o→b∈fs→∃ sl,h'.get? b=some {o with slots:=sl}
  there:∀ b o,h0.get? b≠none→h.get? b=some o→∃ o',h'.get? b=some o'
theorem Near.trans {h0:Heap} {H:Hp} {fs:List Addr} {h h1 h2:Heap} (a:Near h0 H fs h h1) (b:Near h0 H fs h1 h2):Near h0 H fs h h2 :=
  ⟨fun c o e n z=>b.keep c o (a.keep c o e n z) n z,fun c o e hc=>by
    obtain ⟨sl,e1⟩:=a.slot c o e hc
    obtain ⟨sl2,e2⟩:=b.slot c _ e1 hc
    exact ⟨sl2,e2⟩,fun c o n e=>by
    obtain ⟨o1,e1⟩:=a.there c o n e
    exact b.there c o1 n e1⟩
section
variable {M:Model} {A:Around} {E:Value→Shared→Prop} {s:Shared}
theorem note_entry {b0:Heap} {env:Env} {outer:List Env} {L x:Addr} {oe:Obj} {vs:Array Value} {head:Value} {had:Bool} {Q:Unit→Shared→Prop} (hfr:A.frames=some (env::outer)) (hl:s.heap.FunFrames b0 (env::outer)) (hf:env.frame=some L)
    (he:s.heap.get? x=some oe) (hd:oe.data=.fields vs) (hsz:1<vs.size)
    (h:∀ (h':Heap) (T:Addr) (oT:Obj) (ts:Array Value),s.heap.objs.size≤T→(∀ b o,s.heap.get? b=some o→b∉frs (env::outer)→b≠x→h'.get? b=some o)→(∀ b o,s.heap.get? b=some o→b∈frs (env::outer)→∃ sl,h'.get? b=some {o with slots:=sl})→
      h'.get? x=some (Obj.mapFields (·.setIfInBounds 1 (.ref T)) oe)→h'.get? T=some oT→oT.data=.fields ts→ts[3]?=some (rawInt L)→Q () {s with heap:=h'}) :
    wpAny M A (do let a ← frameOf env;let pl ← entryPlaceOf L had;let b ← EntryCells.newEntry head a .none (rawInt L) .none pl;setField (.ref x) 1 b) Q E s:=by
  have xf:x∉frs (env::outer):=fun hm=>by
    obtain ⟨_,o,ho,hnf⟩:=hl.mem hm
    rw [he] at ho
    cases ho
    exact hnf vs hd
  refine wpAny_bind (wpAny_frameOf_fun hfr hl hf fun g ⟨gs,g1,g2⟩=>wpAny_bind (wpAny_entryPlaceOf fun pl hpl=>?_))
  unfold EntryCells.newEntry newFields
  refine wpAny_bind (wpAny_newObj_type ?_ (hpl.sizeOk5 _ _ _ _ _))
  have x1:g.get? x=some oe:=(g1 x xf).trans he
  have nT:g.objs.size≠x:=Nat.ne_of_gt (Heap.lt_size x1)
  generalize hob:({cls:=.type "traceback",data:=.fields ([head,.ref L,.none,rawInt L,.none]++(if pl.isEmpty then List.replicate 6 Value.none else pl)).toArray}:Obj)=ob
  have nf:ob.isFreed=false:=by rw [← hob];rfl
  have x2:(g.push ob).get? x=some oe:=Heap.get?_push_of_some ob x1
  refine wpAny_setField x2 hd hsz ?_
  have dd:=Obj.data_mapFields hd (·.setIfInBounds 1 (Value.ref g.objs.size))
  have tt:((g.push ob).update x (Obj.mapFields (·.setIfInBounds 1 (Value.ref g.objs.size)))).get? g.objs.size=some ob:=(Heap.get?_update_other _ _ (Ne.symm nT)).trans (Heap.get?_push_size g nf)
  refine h _ g.objs.size ob ([head,.ref L,.none,rawInt L,.none]++(if pl.isEmpty then List.replicate 6 Value.none else pl)).toArray (by rw [gs];exact Nat.le_refl _) (fun b o e n nx=>?_) (fun b o e hb=>?_) (Heap.get?_update_self _ x2 (Obj.isFreed_of_fields dd)) tt (by rw [← hob]) ?_
  · exact (Heap.get?_update_other _ _ (Ne.symm nx)).trans (Heap.get?_push_of_some ob ((g1 b n).trans e))
  · obtain ⟨sl,e1⟩:=g2 b o e
    exact ⟨sl,(Heap.get?_update_other _ _ (fun z:x=b=>xf (by rw [z];exact hb))).trans (Heap.get?_push_of_some ob e1)⟩
  · first | (simp;done) | (rcases hpl with rfl | ⟨_,_,_,_,_,_,_,rfl⟩ <;> simp)
theorem new_none {h:Heap} {T:Addr} (hT:h.objs.size≤T) {h0:Heap} (h0e:∀ b o,h0.get? b=some o→∃ o',h.get? b=some o'):h0.get? T=none:=by
  cases q:h0.get? T with
  | none=>rfl
  | some o =>
    obtain ⟨o',e⟩:=h0e T o q
    exact absurd (Heap.lt_size e) (Nat.not_lt.mpr hT)
theorem new_free {h:Heap} {T:Addr} (hT:h.objs.size≤T) {H:Hp} (htr:∀ b o,H b=some o→∃ o',h.get? b=some o'):H T=none:=by
  cases q:H T with
  | none=>rfl
  | some o =>
    obtain ⟨o',e⟩:=htr T o q
    exact absurd (Heap.lt_size e) (Nat.not_lt.mpr hT)
theorem fly_noted {b0 h0:Heap} {H:Hp} {env:Env} {outer:List Env} {L x:Addr} {C a0:Value} {Q:Unit→Shared→Prop} (hfr:A.frames=some (env::outer)) (hl:s.heap.FunFrames b0 (env::outer)) (hf:env.frame=some L)
    (fl:Fly h0 H s.heap x C a0) (h0e:∀ b o,h0.get? b=some o→∃ o',s.heap.get? b=some o') (htr:∀ b o,H b=some o→∃ o',s.heap.get? b=some o')
    (h:∀ h',Near h0 H (frs (env::outer)) s.heap h'→FlyAt h0 H h' x C a0 (rawInt L)→Q () {s with heap:=h'}):wpAny M A (noteFrame (.ref x) env) Q E s:=by
  obtain ⟨x0,xH,oe,vs,T,oT,ts,he,⟨c1,c2,c3⟩,hd,h1,T0,TH,Tx,hT,hdT,h3⟩:=fl
  unfold noteFrame
  simp only [hf]
  refine wpAny_bind (wpAny_field he hd h1 ?_)
  rw [if_pos (by simp)]
  refine wpAny_bind (wpAny_field hT hdT h3 ?_)
  rw [if_neg (by simp [rawInt])]
  refine wpAny_bind (wpAny_setField hT hdT (Array.getElem?_eq_some_iff.mp h3).1 ?_)
  have oth:∀ b,b≠T→(s.heap.update T (Obj.mapFields (·.setIfInBounds 3 Value.none))).get? b=s.heap.get? b:=fun b hb=>Heap.get?_update_other _ _ (Ne.symm hb)
  have Tf:T∉frs (env::outer):=fun hm=>by
    obtain ⟨_,o,ho,nf⟩:=hl.mem hm
    rw [hT] at ho
    cases ho
    exact nf ts hdT
  have hl2:(s.heap.update T (Obj.mapFields (·.setIfInBounds 3 Value.none))).FunFrames b0 (env::outer):=hl.of_keeps fun b o e nf=>⟨o,(oth b (fun z=>by rw [z,hT] at e;cases e;exact nf ts hdT)).trans e,rfl⟩
  refine note_entry (s:={s with heap:=s.heap.update T (Obj.mapFields (·.setIfInBounds 3 Value.none))}) hfr hl2 hf ((oth x (Ne.symm Tx)).trans he) hd (Array.getElem?_eq_some_iff.mp h1).1 fun h' T' oT' ts' z0 z1 z2 z3 z4 z5 z6=>?_
  have sT:s.heap.objs.size≤T':=by
    have z0':(s.heap.update T (Obj.mapFields (·.setIfInBounds 3 Value.none))).objs.size≤T':=z0
    rw [Heap.size_after_update] at z0'
    exact z0'
  have Tx':T'≠x:=Nat.ne_of_gt (Nat.lt_of_lt_of_le (Heap.lt_size he) sT)
  refine h h' ⟨fun b o e n z=>z1 b o ((oth b (fun q=>?_)).trans e) n (fun q=>?_),fun b o e hb=>z2 b o ((oth b (fun q=>Tf (q▸hb))).trans e) hb,fun b o n e=>?_⟩ ⟨x0,xH,_,_,T',oT',ts',z3,⟨(Obj.cls_mapFields _ _).trans c1,?_,?_⟩,Obj.data_mapFields hd _,?_,new_none sT h0e,new_free sT htr,Tx',z4,z5,z6⟩
  · subst q;rcases z with z | z
    · exact z T0
    · exact z TH
  · subst q;rcases z with z | z
    · exact z x0
    · exact z xH
  · by_cases hb:b∈frs (env::outer)
    · obtain ⟨sl,e1⟩:=z2 b o ((oth b (fun q=>Tf (q▸hb))).trans e) hb
      exact ⟨_,e1⟩
    · exact ⟨o,z1 b o ((oth b (fun q=>n (by rw [q];exact T0))).trans e) hb (fun q=>n (by rw [q];exact x0))⟩
  · rw [Array.getElem?_setIfInBounds_ne (by decide)];exact c2
  · obtain ⟨a,b,c,d⟩:=oe
    cases c <;> first | exact c3 | cases hd
  · rw [Array.getElem?_setIfInBounds_self_of_lt (Array.getElem?_eq_some_iff.mp h1).1]
theorem made_noted {b0 h0:Heap} {H:Hp} {env:Env} {outer:List Env} {L x:Addr} {oe:Obj} {vs:Array Value} {a0:Value} {Q:Unit→Shared→Prop} (hfr:A.frames=some (env::outer)) (hl:s.heap.FunFrames b0 (env::outer)) (hf:env.frame=some L)
    (he:s.heap.get? x=some oe) (hd:oe.data=.fields vs) (hdn:oe.dict=none) (h1:vs[1]?=some .none) (hv0:vs[0]?=some a0) (x0:h0.get? x=none) (xH:H x=none) (h0e:∀ b o,h0.get? b=some o→∃ o',s.heap.get? b=some o')
    (htr:∀ b o,H b=some o→∃ o',s.heap.get? b=some o')
    (h:∀ h',Near h0 H (frs (env::outer)) s.heap h'→FlyAt h0 H h' x oe.cls a0 (rawInt L)→Q () {s with heap:=h'}):wpAny M A (noteFrame (.ref x) env) Q E s:=by
  unfold noteFrame
  simp only [hf]
  refine wpAny_bind (wpAny_field he hd h1 ?_)
  rw [if_neg (by decide)]
  refine note_entry hfr hl hf he hd (Array.getElem?_eq_some_iff.mp h1).1 fun h' T' oT' ts' sT z1 z2 z3 z4 z5 z6=>?_
  have Tx':T'≠x:=Nat.ne_of_gt (Nat.lt_of_lt_of_le (Heap.lt_size he) sT)
  refine h h' ⟨fun b o e n z=>z1 b o e n (fun q=>?_),z2,fun b o n e=>?_⟩ ⟨x0,xH,_,_,T',oT',ts',z3,⟨Obj.cls_mapFields _ _,?_,?_⟩,Obj.data_mapFields hd _,?_,new_none sT h0e,new_free sT htr,Tx',z4,z5,z6⟩
  · subst q;rcases z with z | z
    · exact z x0
    · exact z xH
  · by_cases hb:b∈frs (env::outer)
    · obtain ⟨sl,e1⟩:=z2 b o e hb
      exact ⟨_,e1⟩
    · exact ⟨o,z1 b o e hb (fun q=>n (by rw [q];exact x0))⟩
  · rw [Array.getElem?_setIfInBounds_ne (by decide)];exact hv0
  · obtain ⟨a,b,c,d⟩:=oe
    cases c <;> first | exact hdn | cases hd
  · rw [Array.getElem?_setIfInBounds_self_of_lt (Array.getElem?_eq_some_iff.mp h1).1]
theorem fly_lands {b0 h0:Heap} {H:Hp} {l:List Env} {x:Addr} {C a0 fl:Value} {Q:Unit→Shared→Prop} (hl:s.heap.FunFrames b0 l) (f:FlyAt h0 H s.heap x C a0 fl)
    (h0e:∀ b o,h0.get? b=some o→∃ o',s.heap.get? b=some o') (htr:∀ b o,H b=some o→∃ o',s.heap.get? b=some o')
    (h:∀ h',Near h0 H (frs l) s.heap h'→Fly h0 H h' x C a0→Q () {s with heap:=h'}):wpAny M A (setFlight (.ref x) none) Q E s:=by
  obtain ⟨x0,xH,oe,vs,T,oT,ts,he,hc,hd,h1,T0,TH,Tx,hT,hdT,h3⟩:=f
  have sz3:3<ts.size:=(Array.getElem?_eq_some_iff.mp h3).1
  unfold setFlight
  refine wpAny_bind (wpAny_field he hd h1 ?_)
  rw [if_pos (by simp)]
  refine wpAny_setField hT hdT sz3 ?_
  have oth:∀ b,b≠T→(s.heap.update T (Obj.mapFields (·.setIfInBounds 3 ((none:Option Addr).elim Value.none fun f=>rawInt f)))).get? b=s.heap.get? b:=fun b hb=>Heap.get?_update_other _ _ (Ne.symm hb)
  have Tf:T∉frs l:=fun hm=>by
    obtain ⟨_,o,ho,nf⟩:=hl.mem hm
    rw [hT] at ho
    cases ho
    exact nf ts hdT
  have tt:=Heap.get?_update_self (Obj.mapFields (·.setIfInBounds 3 ((none:Option Addr).elim Value.none fun f=>rawInt f))) hT (Obj.isFreed_of_fields (Obj.data_mapFields hdT _))
  refine h _ ⟨fun b o e n z=>(oth b (fun q=>?_)).trans e,fun b o e hb=>⟨o.slots,(oth b (fun q=>Tf (q▸hb))).trans e⟩,fun b o n e=>⟨o,(oth b (fun q=>n (by rw [q];exact T0))).trans e⟩⟩ ⟨x0,xH,oe,vs,T,_,_,(oth x (Ne.symm Tx)).trans he,hc,hd,h1,T0,TH,Tx,tt,Obj.data_mapFields hdT _,?_⟩
  · subst q;rcases z with z | z
    · exact z T0
    · exact z TH
  · rw [Array.getElem?_setIfInBounds_self_of_lt sz3];rfl
theorem frames_slot {h h' b0:Heap}:∀ {l:List Env},h.FunFrames b0 l→(∀ b o,h.get? b=some o→b∈frs l→∃ sl,h'.get? b=some {o with slots:=sl})→h'.FunFrames b0 l
  | [],_,_=>trivial
  | env::l,⟨kk,⟨L,o,hf,hn,ho,hd⟩,r⟩,hs=>by
    have e:frs (env::l)=L::frs l:=by rw [frs,List.filterMap_cons,hf];rfl
    rw [e] at hs
    obtain ⟨sl,e1⟩:=hs L o ho (by simp)
    exact ⟨kk,⟨L,_,hf,hn,e1,hd⟩,frames_slot r fun b o' eb hb=>hs b o' eb (by simp [hb])⟩
theorem fly_leaves {P:Program} {w:World} {b0 h0:Heap} {H:Hp} {env:Env} {outer:List Env} {L x:Addr} {C a0:Value} {Q:Unit→Shared→Prop} (hfr:A.frames=some (env::outer)) (hl:s.heap.FunFrames b0 (env::outer)) (hf:env.frame=some L)
    (fl:Fly h0 H s.heap x C a0) (h0e:∀ b o,h0.get? b=some o→∃ o',s.heap.get? b=some o') (hok:HOk P w H s.heap) (hfn:∀ b∈frs (env::outer),H b=none) (htr:∀ b o,H b=some o→∃ o',s.heap.get? b=some o')
    (h:∀ h',Near h0 H (frs (env::outer)) s.heap h'→Fly h0 H h' x C a0→Q () {s with heap:=h'}):wpAny M A (leaving env (.ref x)) Q E s:=by
  unfold leaving
  refine wpAny_bind (fly_noted hfr hl hf fl h0e htr fun h2 nr fa=>?_)
  refine fly_lands (l:=env::outer) (frames_slot hl nr.slot) fa (fun b o e=>?_) (fun b o e=>?_) fun h3 nr3 fl3=>h h3 (nr.trans nr3) fl3
  · obtain ⟨o1,e1⟩:=h0e b o e
    exact nr.there b o1 (by rw [e];exact fun z=>by cases z) e1
  · obtain ⟨o1,e1⟩:=htr b o e
    exact ⟨o1,nr.keep b o1 e1 (fun z=>by rw [hfn b z] at e;cases e) (.inr (by rw [e];exact fun z=>by cases z))⟩
theorem made_leaves {b0 h0:Heap} {H:Hp} {env:Env} {outer:List Env} {L x:Addr} {oe:Obj} {vs:Array Value} {a0:Value} {Q:Unit→Shared→Prop} (hfr:A.frames=some (env::outer)) (hl:s.heap.FunFrames b0 (env::outer)) (hf:env.frame=some L)
    (he:s.heap.get? x=some oe) (hd:oe.data=.fields vs) (hdn:oe.dict=none) (h1:vs[1]?=some .none) (hv0:vs[0]?=some a0) (x0:h0.get? x=none) (xH:H x=none) (h0e:∀ b o,h0.get? b=some o→∃ o',s.heap.get? b=some o')
    (hfn:∀ b∈frs (env::outer),H b=none) (htr:∀ b o,H b=some o→∃ o',s.heap.get? b=some o')
    (h:∀ h',Near h0 H (frs (env::outer)) s.heap h'→Fly h0 H h' x oe.cls a0→Q () {s with heap:=h'}):wpAny M A (leaving env (.ref x)) Q E s:=by
  unfold leaving
  refine wpAny_bind (made_noted hfr hl hf he hd hdn h1 hv0 x0 xH h0e htr fun h2 nr fa=>?_)
  refine fly_lands (l:=env::outer) (frames_slot hl nr.slot) fa (fun b o e=>?_) (fun b o e=>?_) fun h3 nr3 fl3=>h h3 (nr.trans nr3) fl3
  · obtain ⟨o1,e1⟩:=h0e b o e
    exact nr.there b o1 (by rw [e];exact fun z=>by cases z) e1
  · obtain ⟨o1,e1⟩:=htr b o e
    exact ⟨o1,nr.keep b o1 e1 (fun z=>by rw [hfn b z] at e;cases e) (.inr (by rw [e];exact fun z=>by cases z))⟩
end
end L2
namespace L2
open PySem PySem.Spec PyProof.Rows
theorem ObjOk.there {P:Program} {w:World} {H:Hp} {h:Heap} {a:Addr} {o:HO} (x:ObjOk P w H h a o):∃ u,h.get? a=some u:=by
  cases o with
  | lst xs=>obtain ⟨_,_,_,_,e⟩:=x;exact ⟨_,e⟩
  | tup xs=>obtain ⟨_,_,_,ob,e,_⟩:=x;exact ⟨_,e⟩
  | dK kvs=>obtain ⟨_,_,_,_,ob,_,_,e,_⟩:=x;exact ⟨_,e⟩
  | dT kvs=>obtain ⟨_,_,_,_,ob,_,_,e,_⟩:=x;exact ⟨_,e⟩
  | set S n=>obtain ⟨ob,_,_,_,e,_⟩:=x;exact ⟨_,e⟩
  | ins C dx fs=>obtain ⟨_,_,_,e,_⟩:=x;exact ⟨_,e⟩
  | own y=>obtain ⟨ob,e⟩:=x;exact ⟨_,e⟩
  | xd fs=>obtain ⟨_,⟨od,_,_,e,_⟩,_⟩:=x;exact ⟨_,e⟩
  | rng lo hi=>obtain ⟨_,_,_,e⟩:=x;exact ⟨_,e⟩
  | frz ob u=>exact ⟨_,x.1⟩
  | tbl ps=>exact ⟨_,x⟩
  | met f y=>exact ⟨_,x⟩
  | ext φ=>obtain ⟨_,⟨o,e⟩,_⟩:=x;exact ⟨_,e⟩
noncomputable def CX1 (P:Program) (w:World):CXT:=fun outer H s E e s'=>∃ (x C:Addr) (a0:Value) (H':Hp),e=.ref x∧s'.os=s.os∧AllBare s'.gens∧Un (frs outer) [] H H' s.heap s'.heap∧HOk P w H' s'.heap∧Fly s.heap H' s'.heap x (.ref C) a0∧E (.ref C) none H'
section
variable {P:Program} {w:World} {K:PySem.W.Frag} {mg:Str→Option Value} {base:Heap} {N:List Str} {qual:Str} {scope:Scope} {f:Addr} {cd:Value} {A:Around} {outer:List Env} {s:Shared} {H:Hp} {E:XK}
theorem fly_xe {pins:List (Addr×Obj)} {σ:St} {H':Hp} {s':Shared} {x C:Addr} {a0:Value} (I:Inv (cxOf (CX1 P w) P w K mg base N qual scope f cd A outer s H E) pins σ H' s') (fly:Fly s.heap H' s'.heap x (.ref C) a0) (hE:E (.ref C) none H') :
    (cxOf (CX1 P w) P w K mg base N qual scope f cd A outer s H E).xe (.ref x) s':=by
  have nex:∀ b:Addr,b∉(cxOf (CX1 P w) P w K mg base N qual scope f cd A outer s H E).ex:=fun b z=>absurd (show b∈([]:List Addr) from z) (by simp)
  have fsE:frs (cxOf (CX1 P w) P w K mg base N qual scope f cd A outer s H E).stack=s.heap.objs.size::frs outer:=rfl
  refine fly_leaves (P:=P) (w:=w) (b0:=base) (h0:=s.heap) (H:=H') I.ok.frames I.stack rfl fly (fun b o e=>I.base.there b o e (nex b)) I.hok I.stkFree (fun b o e=>(I.hok b o e).there) fun h'' ⟨k1,k2,k3⟩ fly2=>?_
  have old:∀ b o,s.heap.get? b=some o→b≠s.heap.objs.size:=fun b o e=>Nat.ne_of_lt (Heap.lt_size e)
  have off:∀ b o,s.heap.get? b=some o→b∉frs outer→b∉frs (cxOf (CX1 P w) P w K mg base N qual scope f cd A outer s H E).stack:=fun b o e n z=>by
    rw [fsE] at z
    rcases List.mem_cons.mp z with z | z
    · exact old b o e z
    · exact n z
  refine ⟨x,C,a0,H',rfl,I.os,I.bare,⟨fun b o e n nb _=>?_,fun b o e n hb _=>?_,fun b o e n _=>I.base.free b o e n (nex b),fun b o e _=>?_,I.base.tups,I.base.frzs,I.base.tbls⟩,fun b o e=>?_,fly2,hE⟩
  · exact k1 b o (I.base.keep b o e n nb (nex b)) (off b o e nb) (.inl (by rw [e];exact fun z=>by cases z))
  · obtain ⟨sl,e1⟩:=I.base.slot b o e n hb (nex b)
    obtain ⟨sl2,e2⟩:=k2 b _ e1 (show b∈s.heap.objs.size::frs outer from List.mem_cons_of_mem _ hb)
    exact ⟨sl2,e2⟩
  · obtain ⟨o',e1⟩:=I.base.there b o e (nex b)
    exact k3 b o' (by rw [e];exact fun z=>by cases z) e1
  · refine (I.hok b o e).stay (fun c u hc q=>?_) (fun _ q=>q) fun _ _ q=>q
    have hcn:H' c≠none:=by
      rcases hc with hc | hc
      · rw [hc,e];exact fun z=>by cases z
      · rw [hc];exact fun z=>by cases z
    exact k1 c u q (fun z=>hcn (I.stkFree c z)) (.inr hcn)
theorem passes1:Passes (CX1 P w) (cxOf (CX1 P w) P w K mg base N qual scope f cd A outer s H E) E:=fun pins σ H1 s1 e s' I ⟨x,C,a0,H',he,os,bare,un,hok,fly,hE⟩=>by
  subst he
  have I':=I.call' os un hok bare (fun b z=>absurd z (by simp))
  have nex:∀ b:Addr,b∉(cxOf (CX1 P w) P w K mg base N qual scope f cd A outer s H E).ex:=fun b z=>absurd (show b∈([]:List Addr) from z) (by simp)
  have older:∀ b,s1.heap.get? b=none→s.heap.get? b=none:=fun b z=>by
    cases q:s.heap.get? b with
    | none=>rfl
    | some o =>
      obtain ⟨o',e1⟩:=I.base.there b o q (nex b)
      rw [z] at e1;cases e1
  obtain ⟨x0,xH,oe,vs,T,oT,ts,he,hc,hd,h1,T0,TH,r⟩:=fly
  exact fly_xe I' ⟨older _ x0,xH,oe,vs,T,oT,ts,he,hc,hd,h1,older _ T0,TH,r⟩ hE
end
end L2
namespace L2
open PySem PySem.Spec PyProof.Rows
section
variable {P:Program} {w:World} {K:PySem.W.Frag} {mg:Str→Option Value} {base:Heap} {N:List Str} {qual:Str} {scope:Scope} {f:Addr} {cd:Value} {A:Around} {outer:List Env} {s:Shared} {H:Hp} {E:XK}
theorem made_xe {pins:List (Addr×Obj)} {σ:St} {H1:Hp} {s1:Shared} {x C:Addr} {vs:List Value} {h':Heap} (I0:Inv (cxOf (CX1 P w) P w K mg base N qual scope f cd A outer s H E) pins σ H1 s1) (hx:Heap.MadeExcOf s1.heap h' x (.ref C) vs) (hE:E (.ref C) none H1) :
    (cxOf (CX1 P w) P w K mg base N qual scope f cd A outer s H E).xe (.ref x) {s1 with heap:=h'}:=by
  have nex:∀ b:Addr,b∉(cxOf (CX1 P w) P w K mg base N qual scope f cd A outer s H E).ex:=fun b z=>absurd (show b∈([]:List Addr) from z) (by simp)
  have fsE:frs (cxOf (CX1 P w) P w K mg base N qual scope f cd A outer s H E).stack=s.heap.objs.size::frs outer:=rfl
  have I:Inv (cxOf (CX1 P w) P w K mg base N qual scope f cd A outer s H E) pins σ H1 {s1 with heap:=h'}:=I0.kept (t':=s1.toks) (h':=h') hx.keeps
  obtain ⟨t,he,_,_⟩:=hx.there
  have x0:s.heap.get? x=none:=by
    cases q:s.heap.get? x with
    | none=>rfl
    | some o =>
      obtain ⟨o',e1⟩:=I0.base.there x o q (nex x)
      rw [hx.new] at e1;cases e1
  have xH:H1 x=none:=by
    cases q:H1 x with
    | none=>rfl
    | some o =>
      obtain ⟨o',e1⟩:=(I0.hok x o q).there
      rw [hx.new] at e1;cases e1
  refine made_leaves (b0:=base) (h0:=s.heap) (H:=H1) I.ok.frames I.stack rfl he rfl rfl rfl rfl x0 xH (fun b o e=>I.base.there b o e (nex b)) I.stkFree (fun b o e=>(I.hok b o e).there) fun h'' ⟨k1,k2,k3⟩ fly2=>?_
  have old:∀ b o,s.heap.get? b=some o→b≠s.heap.objs.size:=fun b o e=>Nat.ne_of_lt (Heap.lt_size e)
  have off:∀ b o,s.heap.get? b=some o→b∉frs outer→b∉frs (cxOf (CX1 P w) P w K mg base N qual scope f cd A outer s H E).stack:=fun b o e n z=>by
    rw [fsE] at z
    rcases List.mem_cons.mp z with z | z
    · exact old b o e z
    · exact n z
  refine ⟨x,C,_,H1,rfl,I.os,I.bare,⟨fun b o e n nb _=>?_,fun b o e n hb _=>?_,fun b o e n _=>I.base.free b o e n (nex b),fun b o e _=>?_,I.base.tups,I.base.frzs,I.base.tbls⟩,fun b o e=>?_,fly2,hE⟩
  · exact k1 b o (I.base.keep b o e n nb (nex b)) (off b o e nb) (.inl (by rw [e];exact fun z=>by cases z))
  · obtain ⟨sl,e1⟩:=I.base.slot b o e n hb (nex b)
    obtain ⟨sl2,e2⟩:=k2 b _ e1 (show b∈s.heap.objs.size::frs outer from List.mem_cons_of_mem _ hb)
    exact ⟨sl2,e2⟩
  · obtain ⟨o',e1⟩:=I.base.there b o e (nex b)
    exact k3 b o' (by rw [e];exact fun z=>by cases z) e1
  · refine (I.hok b o e).stay (fun c u hc q=>?_) (fun _ q=>q) fun _ _ q=>q
    have hcn:H1 c≠none:=by
      rcases hc with hc | hc
      · rw [hc,e];exact fun z=>by cases z
      · rw [hc];exact fun z=>by cases z
    exact k1 c u q (fun z=>hcn (I.stkFree c z)) (.inr hcn)
structure OwnE (base:Heap) (C:Addr) (newId initId B:String) (bmB:List Value):Prop where
  fb:ExcBaseFacts B newId initId bmB
  ob:∃ bm N nm q bs hdct sn sub ab col dd k0 k1 k2 k3 k5 mN,base.get? C=some (excClassObj nm q C N bs bm hdct sn sub ab col dd k0 k1 k2 k3 k5 newId)∧base.Ns N mN∧mN "__init__"=none∧OwnTail base bmB bm
noncomputable def tRaise (E:XK) (C:Addr) (te:TE):TS:=fun _ σ H=>te σ H fun _ H1=>E (.ref C) none H1
theorem ps_raise {x:Str} {C:Addr} {newId initId B:String} {bmB:List Value} {e:Expr} {te:TE} {np cpos pos:Pos} (O:OwnE base C newId initId B bmB) (hg:Gl (cxOf (CX1 P w) P w K mg base N qual scope f cd A outer s H E) x) (hm:mg x=some (.ref C))
    (he:PE (cxOf (CX1 P w) P w K mg base N qual scope f cd A outer s H E) e te) (hd:(x==("__debug__":Str))=false:=by decide)
    (hs:starEach [e] (cxOf (CX1 P w) P w K mg base N qual scope f cd A outer s H E).env=[(false,eval e (cxOf (CX1 P w) P w K mg base N qual scope f cd A outer s H E).env)]:=by rfl) :
    PS (cxOf (CX1 P w) P w K mg base N qual scope f cd A outer s H E) (.Raise (some (.Call (.Name x np) [e] [] cpos)) none pos) (tRaise E C te):=by
  intro pins s1 σ H1 D I h
  obtain ⟨bm,Nc,nm,q,bs,hdct,sn,sub,ab,col,dd,k0,k1,k2,k3,k5,mN,hC,hN,hni,T⟩:=O.ob
  refine wpAny_Raise_call_subT (C:=C) (nm:=nm) (q:=q) (N:=Nc) (bs:=bs) (bm:=bm) (hdct:=hdct) (sn:=sn) (sub:=sub) (ab:=ab) (col:=col) (dd:=dd) (k0:=k0) (k1:=k1) (k2:=k2) (k3:=k3) (k5:=k5) O.fb (mN:=mN) (T.hasType O.fb.hasBase) (I.ok.hd rfl) (by rw [hs];rfl) hni ?_
  refine ld_glob I hg hm ⟨rfl,?_⟩ hd
  rw [hs]
  refine Calls.evalArgs_plain (Calls.spliced_cons (thn (he pins s1 σ H1 _ I h) fun v s2 ⟨y,H2,I2,ry,q2⟩=>Calls.spliced_nil ?_))
  exact ⟨rfl,Nat.le_trans (show 1≤1000 by decide) (by decide),I2.bk _ _ hC,hN.keeps I2.bk,T.keeps I2.bk,fun h' e hx=>made_xe I2 hx q2⟩
end
end L2
namespace L2
open PySem PySem.Spec PyProof.Rows
section
variable {P:Program} {w:World} {K:PySem.W.Frag} {mg:Str→Option Value} {base:Heap}
theorem Fun.ok1 {x qual:Str} {st:Stmt} {f:Addr} {fd:FuncData} {N ps:List Str} {k:Nat} {sp:Sp} (F:Fun K x qual st f fd) (S:FnScope N ps (defScope st)) (len:∀ vs H Q E,sp vs H Q E→vs.length=ps.length)
    (hbody:∀ (cdv:Value) (A:Around) (outer:List Env) (s:Shared) (H:Hp) (vs:List V) (Q:VK) (E:XK),Room k (A.deeper (envOfC qual (defScope st) s.heap.objs.size f cdv))→sp vs H Q E→
      ∃ t,PSs (cxOf (CX1 P w) P w K mg base N qual (defScope st) f cdv A outer s H E) (defBody st) t∧t {nx:=fun _ H'=>Q .non H',rt:=Q} (start N vs) H):FnOk P w K mg base (CX1 P w) (k+1) f fd ps sp:=by
  obtain ⟨oc,od,kV,doc,pm,an,cdv,ct,osl,rfl,lk,hcd⟩:=F.ex
  exact fn_of lk hcd S len fun A outer s H vs Q E hr hsp=>hbody cdv A outer s H vs Q E hr hsp
theorem FnOk.up {k:Nat} {f:Addr} {fd:FuncData} {ps:List Str} {sp:Sp} (F:FnOk P w K mg base CX0 k f fd ps sp):FnOk P w K mg base (CX1 P w) k f fd ps sp :=
  ⟨F.len,fun A outer s H args us vs Q E hr he hb hv hs=>codeAny_mono (F.run A outer s H args us vs Q E hr he hb hv hs) fun r s' hq=>by
    cases r with
    | error e=>exact False.elim hq
    | ok fl=>cases fl <;> exact hq⟩
theorem exc_obj {C:Addr} {newId:String} {bmB:List Value} (X:K.In base) (q:PySem.W.excIn K C bmB newId=true):∃ (nm qn:Str) (N:Addr) (bs bm:List Value) (hdct:Bool) (sn:List Str) (sub:List Value) (ab:Bool) (col:Option Bool) (dd:Option Addr) (k0 k1 k2 k3 k5:Option Value) (cd:ClassData),
    base.get? C=some (excClassObj nm qn C N bs bm hdct sn sub ab col dd k0 k1 k2 k3 k5 newId)∧PySem.W.clsIn K C=some cd∧cd.mro=.ref C::bm∧PySem.W.nsOkIn K N=true∧PySem.W.nsIn K N "__init__"=some none∧PySem.W.tailIn K bmB bm=true:=by
  unfold PySem.W.excIn at q
  split at q
  · rename_i odict cl sl look
    split at q
    · rename_i C' bm k0 k1 k2 k3 n k5 hm hs
      simp only [beq_iff_eq,Bool.and_eq_true,Bool.not_eq_true'] at q
      have ⟨⟨⟨⟨⟨eC,eN⟩,noDel⟩,ht⟩,hok⟩,hni⟩:=q
      subst eC eN
      cases cl with
      | mk nm bs mro ns qn hd sn sub ab col del =>
      have em:mro=.ref C'::bm:=hm
      have ed:del=false:=noDel
      subst em ed
      have hsl:sl=#[k0,k1,k2,k3,some (.builtin n),k5]:=by
        cases sl with
        | mk l=>exact congrArg Array.mk hs
      subst hsl
      have ec:PySem.W.clsIn K C'=some ⟨nm,bs,.ref C'::bm,ns,qn,hd,sn,sub,ab,col,false⟩:=by
        unfold PySem.W.clsIn
        rw [look]
      exact ⟨nm,qn,ns,bs,bm,hd,sn,sub,ab,col,odict,k0,k1,k2,k3,k5,⟨nm,bs,.ref C'::bm,ns,qn,hd,sn,sub,ab,col,false⟩,X _ _ look,ec,rfl,hok,hni,ht⟩
    · cases q
  · cases q
theorem own_e {C:Addr} {newId initId B:String} {bmB:List Value} (fb:ExcBaseFacts B newId initId bmB) (X:K.In base) (q:PySem.W.excIn K C bmB newId=true):OwnE base C newId initId B bmB:=by
  obtain ⟨nm,qn,ns,bs,bm,hd,sn,sub,ab,col,odict,k0,k1,k2,k3,k5,cd,a1,_,_,hok,hni,ht⟩:=exc_obj X q
  exact ⟨fb,bm,ns,nm,qn,bs,hd,sn,sub,ab,col,odict,k0,k1,k2,k3,k5,base.nsMap ns,a1,.of_isNs (PySem.W.isNs_of_in X hok),PySem.W.nsMap_none_of_in X hok hni,PySem.W.tail_of_in X ht⟩
end
end L2
namespace L2
open PySem PySem.Spec PyProof.Rows
noncomputable def XP (X:Cx) (pins:List (Addr×Obj)) (R:St→Addr→Hp→Prop) (e:Value) (s':Shared):Prop :=
  ∃ (x C:Addr) (a0:Value) (σ:St) (H1 H':Hp) (s1:Shared),e=.ref x∧Inv X pins σ H1 s1∧s'.os=s1.os∧AllBare s'.gens∧Un (frs X.stack) [] H1 H' s1.heap s'.heap∧HOk X.prog X.w H' s'.heap∧Fly s1.heap H' s'.heap x (.ref C) a0∧R σ C H'
noncomputable abbrev TX:=Ends→(St→Addr→Hp→Prop)→St→Hp→Prop
noncomputable def PX (X:Cx) (st:Stmt) (t:TX):Prop :=
  ∀ (pins:List (Addr×Obj)) (s:Shared) (σ:St) (H:Hp) (D:Ends) (R:St→Addr→Hp→Prop),Inv X pins σ H s→t D R σ H→wpAny (model X.prog X.w) X.A (exec st X.env) (SP X pins D) (XP X pins R) s
noncomputable def PXs (X:Cx) (st:List Stmt) (t:TX):Prop :=
  ∀ (pins:List (Addr×Obj)) (s:Shared) (σ:St) (H:Hp) (D:Ends) (R:St→Addr→Hp→Prop),Inv X pins σ H s→t D R σ H→wpAny (model X.prog X.w) X.A (execs st X.env) (SP X pins D) (XP X pins R) s
section
variable {X:Cx} {k:Nat} {f:Addr} {fd:FuncData} {ps:List Str} {sp:Sp} {x:Str} {p pos epos:Pos} {e:Expr} {es:List Expr} {t:TA}
noncomputable def xIf (tc:TT) (t u:TX):TX:=fun D R σ H=>tc σ H fun c H1=>if c=true then t D R σ H1 else u D R σ H1
theorem px_if {c:Expr} {a b:List Stmt} {tc:TT} {ta tb:TX} (hc:PT X.nox c tc) (ha:PXs X a ta) (hb:PXs X b tb):PX X (.If c a b pos) (xIf tc ta tb):=by
  intro pins s σ H D R I h
  have hT:wpAny (model X.prog X.w) X.A (isTrue c X.env (eval c X.env)) (TP X pins σ fun d H1=>if d=true then ta D R σ H1 else tb D R σ H1) (XP X pins R) s :=
    wpAny_mono (hc pins s σ H _ (I.wish _) h) (fun d s1 ⟨H1,I1,q⟩=>⟨H1,I1.unwish,q⟩) fun _ _ z=>False.elim z
  refine wpAny_If (thn hT fun d s1 ⟨H1,I1,q1⟩=>?_)
  cases d with
  | true=>exact ha pins s1 σ H1 D R I1 q1
  | false=>exact hb pins s1 σ H1 D R I1 q1
theorem pxs_one {st:Stmt} {tx:TX} (h:PX X st tx):PXs X [st] tx:=fun pins s σ H D R I hw=>by
  refine wpAny_execs_cons (thn (h pins s σ H D R I hw) fun fl s1 q=>?_)
  cases fl with
  | next=>exact wpAny_execs_nil q
  | brk=>exact q
  | cont=>exact q
  | ret u=>exact q
end
end L2
namespace L2
open PySem PySem.Spec PyProof.Rows
section
variable {X:Cx} {pins:List (Addr×Obj)} {σ:St} {H1 H':Hp} {s1:Shared} {h h2:Heap}
theorem near_un (un:Un (frs X.stack) [] H1 H' s1.heap h) (nr:Near s1.heap H' (frs X.stack) h h2):Un (frs X.stack) [] H1 H' s1.heap h2 :=
  ⟨fun b o e n nb nx=>nr.keep b o (un.keep b o e n nb nx) nb (.inl (by rw [e];exact fun z=>by cases z)),
   fun b o e n hb nx=>by
     obtain ⟨sl,e1⟩:=un.slot b o e n hb nx
     obtain ⟨sl2,e2⟩:=nr.slot b _ e1 hb
     exact ⟨sl2,e2⟩,
   un.free,fun b o e nx=>by
     obtain ⟨o',e1⟩:=un.there b o e nx
     exact nr.there b o' (by rw [e];exact fun z=>by cases z) e1,un.tups,un.frzs,un.tbls⟩
theorem near_hok {P:Program} {w:World} {h0:Heap} {fs:List Addr} (hok:HOk P w H' h) (nr:Near h0 H' fs h h2) (hfs:∀ b∈fs,H' b=none):HOk P w H' h2:=fun b o e=>by
  refine (hok b o e).stay (fun c u hc q=>?_) (fun _ q=>q) fun _ _ q=>q
  have hcn:H' c≠none:=by
    rcases hc with hc | hc
    · rw [hc,e];exact fun z=>by cases z
    · rw [hc];exact fun z=>by cases z
  exact nr.keep c u q (fun z=>hcn (hfs c z)) (.inr hcn)
end
section
variable {X:Cx} {pins:List (Addr×Obj)} {σ:St} {H:Hp} {s:Shared}
theorem unbind_ok {M:Model} {A:Around} {E:Value→Shared→Prop} {i:Nat} {x:Str} {v:V} {Q:Unit→Shared→Prop} (I:Inv X pins σ H s) (hN:X.N.Nodup) (hi:X.N[i]?=some x) (hk:X.env.scope.names.lookup x=some .local) (hv:σ[i]?=some (some v)) (hvis:Vis X.env.scope x)
    (hko:X.env.kindOf x=some .local) (h:∀ s',Inv X pins (σ.set i none) H s'→Q () s'):wpAny M A (unbindName X.env x) Q E s:=by
  obtain ⟨m,hn,hl⟩:=id I.loc
  have hcls:(X.env.scope.kind==.class || (X.env.scope.kind==.module&&X.env.locals != X.env.globals))=false:=by rw [I.ok.kind];rfl
  have hiσ:i<σ.length:=by rw [I.len];exact (List.getElem?_eq_some_iff.mp hi).1
  have cne:=I.cne
  obtain ⟨u0,r0,lk⟩:=hl i x v hi hv hvis
  have hm:m x=some u0:=by
    rcases lk with ⟨_,e⟩ | ⟨k,_⟩
    · exact e
    · rcases k with k | k
      · rw [hko] at k;cases k
      · rw [hko] at k;cases k
  refine wpAny_unbindName_local hko hn hm hcls fun h' u hn' hs=>?_
  obtain ⟨oL,_,_,hoL,_⟩:=id hn
  have far:∀ b o,X.s₀.heap.get? b=some o→b≠X.env.locals:=fun b o e=>Nat.ne_of_lt (Nat.lt_of_lt_of_le (Heap.lt_size e) I.ok.above)
  refine h _ ⟨I.ok,I.os,I.bare,⟨fun b o e n hb hx=>(hs.2 b (far b o e)).trans (I.base.keep b o e n hb hx),fun b o e n hb hx=>?_,I.base.free,fun b o e hx=>?_,I.base.tups,I.base.frzs,I.base.tbls⟩,⟨_,hn',fun j y v' e1 e2 e3=>?_⟩,fun y c e=>?_,I.free,I.freeC,fun p hp=>?_,fun b ob e=>?_,by simpa using I.len⟩
  · obtain ⟨sl,e1⟩:=I.base.slot b o e n hb hx
    exact ⟨sl,(hs.2 b (far b o e)).trans e1⟩
  · obtain ⟨o',e1⟩:=I.base.there b o e hx
    exact ⟨o',(hs.2 b (far b o e)).trans e1⟩
  · by_cases hj:j=i
    · subst hj
      rw [List.getElem?_set_self hiσ] at e2
      cases e2
    · rw [List.getElem?_set_ne (Ne.symm hj)] at e2
      obtain ⟨u',r',q⟩:=hl j y v' e1 e2 e3
      refine ⟨u',r',?_⟩
      rcases q with ⟨k,e⟩ | ⟨k,c,e,z⟩
      · have ny:y≠x:=fun e=>hj (nodup_ix hN e1 (e▸hi))
        exact .inl ⟨k,by show (if y=x then u else m y)=some u';rw [if_neg ny];exact e⟩
      · exact .inr ⟨k,c,e,z.sameBut hs (cne y c e)⟩
  · obtain ⟨w',z⟩:=I.cell y c e
    exact ⟨w',z.sameBut hs (cne y c e)⟩
  · obtain ⟨e,n,ne,nf,d⟩:=I.pin p hp
    exact ⟨(hs.2 p.1 ne).trans e,n,ne,nf,d⟩
  · refine (I.hok b ob e).stay (fun c w' hc q=>(hs.2 c fun z=>?_).trans q) (fun _ q=>q) fun _ _ q=>q
    have hf:=I.free
    rw [← z] at hf
    rcases hc with hc | hc
    · rw [← hc,hf] at e;cases e
    · rw [hf] at hc;cases hc
end
section
variable {M:Model} {A:Around} {E:Value→Shared→Prop}
noncomputable def Up (K:PySem.W.Frag) (C B:Addr):Prop:=PySem.W.mroIn K C (.ref B)=some true∧PySem.W.mroIn K B (.type "BaseException")=some true∧PySem.W.typeIn K (.ref B)=some (.type "type")
theorem matches_up {K:PySem.W.Frag} {h:Heap} {g:Array GenState} {d:Drawn} {t:Nat} {os:OsState} {e C B:Addr} {oe:Obj} {Q:Bool→Shared→Prop} (X:K.In h) (u:Up K C B) (he:h.get? e=some oe) (hcls:oe.cls=.ref C) (hq:Q true ⟨h,g,d,t,os⟩):wpAny M A (excMatches (.ref e) (.ref B)) Q E ⟨h,g,d,t,os⟩:=by
  have L1:=PySem.W.looks_mroIn (M:=M) X u.1
  have L2:=PySem.W.looks_mroIn (M:=M) X u.2.1
  obtain ⟨od,cd,sl,hB⟩:∃ od cd sl,h.get? B=some ⟨.type "type",od,.cls cd,sl⟩:=by
    have z:=u.2.1
    have y:=u.2.2
    unfold PySem.W.mroIn PySem.W.clsIn at z
    split at z
    · rename_i look
      unfold PySem.W.typeIn at y
      simp only [look] at y
      cases y
      exact ⟨_,_,_,X _ _ look⟩
    · cases z
  have f:=tc_notTuple
  unfold excMatches
  repeat (first | (with_reducible refine wpAny_loadPart_at he ?_;rw [hcls]) | with_reducible refine wpAny_loadPart_at hB ?_ | with_reducible refine L2.at ?_ | with_reducible refine L1.at ?_ | wp_step)
  exact hq
end
end L2
namespace L2
open PySem PySem.Spec PyProof.Rows
noncomputable abbrev Cx.marked (X:Cx) (v:Option Value):Cx:={X with A:=X.A.mark v,calm:=false}
section
variable {X:Cx} {pins:List (Addr×Obj)} {σ:St} {H:Hp} {s:Shared} {v:Option Value}
theorem Inv.mark (I:Inv X pins σ H s) (v:Option Value):Inv (X.marked v) pins σ H s :=
  ⟨⟨I.ok.mod,I.ok.kind,I.ok.glob,I.ok.blt,I.ok.above,I.ok.inj,I.ok.has,I.ok.cab,(fun z=>by cases z),I.ok.frames,I.ok.stk,I.ok.exf,I.ok.bs,I.ok.bsz,I.ok.noex,I.ok.exfs,I.ok.funs,I.ok.frf⟩,I.os,I.bare,I.base,I.loc,I.cell,I.free,I.freeC,I.pin,I.hok,I.len⟩
theorem Inv.unmark (ok:X.Ok) (I:Inv (X.marked v) pins σ H s):Inv X pins σ H s:=⟨ok,I.os,I.bare,I.base,I.loc,I.cell,I.free,I.freeC,I.pin,I.hok,I.len⟩
noncomputable def excO (x C:Addr):HO:=.ext fun h=>∃ o,h.get? x=some o∧o.cls=.ref C∧o.dict=none∧∃ vs,o.data=.fields vs
theorem inv_track {x:Addr} {o:HO} (I:Inv X pins σ H s) (hx:H x=none) (x0:X.s₀.heap.get? x=none) (xl:x≠X.env.locals) (xc:∀ y c,X.env.cells.lookup y=some c→c≠x) (xp:∀ p∈X.pn++pins,p.1≠x) (ok:ObjOk X.prog X.w (upd H x o) s.heap x o):Inv X pins σ (upd H x o) s:=by
  have ne:∀ b u,H b=some u→b≠x:=fun b u e z=>by rw [z,hx] at e;cases e
  have n0:∀ b u,X.s₀.heap.get? b=some u→b≠x:=fun b u e z=>by rw [z,x0] at e;cases e
  refine ⟨I.ok,I.os,I.bare,⟨I.base.keep,I.base.slot,fun b u e n hx'=>?_,I.base.there,fun b xs e=>?_,fun b u xs e=>?_,fun b ps e=>?_⟩,I.loc,I.cell,by rw [upd_ne xl.symm];exact I.free,fun y c e=>by rw [upd_ne (xc y c e)];exact I.freeC y c e,fun p hp=>?_,fun b u e=>?_,I.len⟩
  · rw [upd_ne (n0 b u e)];exact I.base.free b u e n hx'
  · have e1:=I.base.tups b xs e
    rw [upd_ne (ne b _ e1)];exact e1
  · have e1:=I.base.frzs b u xs e
    rw [upd_ne (ne b _ e1)];exact e1
  · obtain ⟨more,e1⟩:=I.base.tbls b ps e
    exact ⟨more,by rw [upd_ne (ne b _ e1)];exact e1⟩
  · obtain ⟨a1,a2,a3,a4,a5⟩:=I.pin p hp
    exact ⟨a1,by rw [upd_ne (xp p hp)];exact a2,a3,a4,a5⟩
  · by_cases z:b=x
    · subst z
      rw [upd_same] at e
      cases e
      exact ok
    · rw [upd_ne z] at e
      exact (I.hok b u e).stay (fun _ _ _ q=>q) (fun c q=>by rw [upd_ne (ne c _ q)];exact q) fun c xs q=>by rw [upd_ne (ne c _ q)];exact q
end
noncomputable def tTry (K:PySem.W.Frag) (B:Addr) (ie:Nat) (tb:TX) (ts:TS):TS:=fun D σ H=>tb D (fun σ' C H'=>Up K C B∧∀ x,H' x=none→ts {nx:=fun σ2 H2=>D.nx (σ2.set ie none) H2,rt:=fun _ _=>False} (σ'.set ie (some (.ref x))) (upd H' x (excO x C))) σ H
theorem ps_try {X:Cx} {body suite:List Stmt} {b₀:Stmt} {cx n:Str} {cp hp pos:Pos} {B:Addr} {ie:Nat} {tb:TX} {ts:TS} (hb:PXs X body tb) (hex:X.ex=[]) (hst:X.stack=X.env::X.outer) (hfrm:X.env.frame=some X.env.locals) (hN:X.N.Nodup) (hi:X.N[ie]?=some n)
    (hloc:Loc X.env.scope n) (hk:X.env.scope.names.lookup n=some .local) (hko:X.env.kindOf n=some .local) (hvis:Vis X.env.scope n) (hg:Gl X cx) (hm:X.mg cx=some (.ref B)) (hs:∀ v,PSs (X.marked v).nox (b₀::suite) ts) (hd:(cx==("__debug__":Str))=false:=by decide) :
    PS X (.Try body [.ExceptHandler (some (.Name cx cp)) (some n) (b₀::suite) hp] [] [] pos) (tTry X.K B ie tb ts):=by
  intro pins s σ H D I h
  refine wpAny_Try_except (wpAny_mono (hb pins s σ H D _ I h) (fun f s1 q=>?_) fun e s1 q=>?_)
  · cases f with
    | next=>exact wpAny_execs_nil q
    | brk=>exact q
    | cont=>exact q
    | ret u=>exact q
  obtain ⟨x,C,a0,σ1,H1,H',sc,rfl,Ic,os,bare,un,hok,fly,up,hR⟩:=q
  have nil:∀ (P:Addr→Prop),∀ b∈([]:List Addr),P b:=fun _ b z=>absurd z (by simp)
  have I1:Inv X pins σ1 H' s1:=Ic.call' os un hok bare (nil _)
  have fsE:frs (X.env::X.outer)=frs X.stack:=by rw [hst]
  refine fly_noted (h0:=sc.heap) (H:=H') (by rw [← hst];exact Ic.ok.frames) (by rw [← hst];exact I1.stack) hfrm fly (fun b o e=>un.there b o e (by simp)) (fun b o e=>(hok b o e).there) fun h2 nr2 fa=>?_
  rw [fsE] at nr2
  have un2:=near_un un nr2
  have hok2:=near_hok hok nr2 (fun b hb=>I1.stkFree b hb)
  have I2:Inv X pins σ1 H' {s1 with heap:=h2}:=Ic.call' (s':={s1 with heap:=h2}) os un2 hok2 bare (nil _)
  refine fly_lands (h0:=sc.heap) (H:=H') (l:=X.stack) I2.stack fa (fun b o e=>un2.there b o e (by simp)) (fun b o e=>(hok2 b o e).there) fun h3 nr3 fly3=>?_
  have un3:=near_un un2 nr3
  have hok3:=near_hok hok2 nr3 (fun b hb=>I2.stkFree b hb)
  have I3:Inv X pins σ1 H' {s1 with heap:=h3}:=Ic.call' (s':={s1 with heap:=h3}) os un3 hok3 bare (nil _)
  obtain ⟨ox,hxo,hxc⟩:∃ o,h3.get? x=some o∧o.cls=.ref C:=by
    obtain ⟨_,_,oe,_,_,_,_,e1,e2,_⟩:=fly3
    exact ⟨oe,e1,e2.1⟩
  refine wpAny_handleBy_cons (codeAny_handlers_test (ld_glob (X:=X.marked (some (.ref x))) (I3.mark (some (.ref x))) hg hm ?_ hd)) (by intro z;cases z)
  refine matches_up I3.kIn up hxo hxc ?_
  refine codeAny_handlers_suite_as ?_
  refine fly_lands (h0:=sc.heap) (H:=H') (l:=X.stack) (fl:=.none) I3.stack fly3 (fun b o e=>un3.there b o e (by simp)) (fun b o e=>(hok3 b o e).there) fun h4 nr4 fly4=>?_
  have un4:=near_un un3 nr4
  have hok4:=near_hok hok3 nr4 (fun b hb=>I3.stkFree b hb)
  have I4:Inv X pins σ1 H' {s1 with heap:=h4}:=Ic.call' (s':={s1 with heap:=h4}) os un4 hok4 bare (nil _)
  obtain ⟨x0,xH,oe4,vs4,_,_,_,e4,c4,d4,_⟩:=fly4
  have old:∀ b o,sc.heap.get? b=some o→b≠x:=fun b o e z=>by rw [z,x0] at e;cases e
  have I5:Inv X pins σ1 (upd H' x (excO x C)) {s1 with heap:=h4}:=by
    refine inv_track I4 xH ?_ ?_ ?_ ?_ ⟨⟨oe4,e4,c4.1,c4.2.2,vs4,d4⟩,⟨oe4,e4⟩,fun g1 g2 ⟨o,a1,a2⟩ k=>⟨o,k o a1,a2⟩⟩
    · cases z:X.s₀.heap.get? x with
      | none=>rfl
      | some o =>
        obtain ⟨o',e'⟩:=Ic.base.there x o z (by rw [hex];simp)
        exact absurd rfl (old x o' e')
    · obtain ⟨m,⟨o,_,_,ho,_⟩,_⟩:=id Ic.loc
      exact (old _ o ho).symm
    · intro y c e
      obtain ⟨w',o,ho,_⟩:=Ic.cell y c e
      exact old _ o ho
    · intro p hp'
      exact old _ _ (Ic.pin p hp').1
  refine store_ok I5 hN hi hloc (v:=.ref x) rfl (fun s6 I6=>?_) (.inr hk)
  refine wpAny_mono (hs (some (.ref x)) pins s6 _ _ _ ((I6.mark (some (.ref x))).wish _) (hR x xH)) (fun f s7 q7=>?_) fun _ _ z=>False.elim z
  cases f with
  | brk=>obtain ⟨_,_,_,z⟩:=q7;exact z.elim
  | cont=>obtain ⟨_,_,_,z⟩:=q7;exact z.elim
  | ret u=>obtain ⟨_,_,_,_,_,z⟩:=q7;exact z.elim
  | next =>
    obtain ⟨σ7,H7,I7w,q8⟩:=q7
    have I7:Inv X pins σ7 H7 s7:=Inv.unmark Ic.ok I7w.unwish
    have hlen:ie<σ7.length:=by rw [I7.len];exact (List.getElem?_eq_some_iff.mp hi).1
    show wpAny _ _ (bindName X.env n .none>>=fun _=>unbindBehindTheSuite X.env n hp) _ _ s7
    refine wpAny_bind (wpAny_bindName (store_ok I7 hN hi hloc (v:=.non) rfl (fun s8 I8=>?_) (.inr hk)))
    unfold unbindBehindTheSuite
    refine wpAny_onRaise (unbind_ok I8 hN hi hk (v:=.non) (List.getElem?_set_self hlen) hvis hko fun s9 I9=>?_)
    rw [List.set_set] at I9
    exact ⟨_,H7,I9,q8⟩
end L2
namespace L2
open PySem PySem.Spec PyProof.Rows PySem.W
structure ClsE (K:Frag) (C:Addr):Prop where
  hg:findIn K (.ref C) "__getattribute__"=some (some (.builtin "BaseException.__getattribute__"))
  hh:findIn K (.ref C) "__getattr__"=some none
  fo:findObj K C none "__class__"=some (.bind (.builtin "getset_descriptor.__get__") (.builtin "object.__class__"))
  hm:mroIn K C (.type "object")=some true
  hb:mroIn K C (.type "BaseException")=some true
section
variable {prog:Program} {w:World} {A:Around} {E:Value→Shared→Prop} {s:Shared} {K:Frag} {x C:Addr} {ox:Obj}
theorem cls_some {v:Value} {b:Bool} (h:mroIn K C v=some b):∃ cd,clsIn K C=some cd:=by
  unfold mroIn at h
  cases e:clsIn K C with
  | none=>rw [e] at h;cases h
  | some cd=>exact ⟨cd,rfl⟩
theorem err_entry {tk:Tok} {Q:Fin→Shared→Prop} (c:ClsE K C) (X:K.In s.heap) (I:PySem.W.InstAt s.heap x ox C none) (h:Q (.done (.ret (.ref C))) s):wpAny (model prog w) A (Builtin.«object.__getattribute__» ⟨[.ref x,.str "__class__" tk],[]⟩) Q E s:=by
  have L0:=I.type (M:=model prog w)
  have L1:=looks_find (M:=model prog w) X I c.fo
  obtain ⟨hh,gg,d,t,os⟩:=s
  refine wpAny_bind (wpAny_pure (wpAny_bind (wpAny_pure (wpAny_bind (L0.at (wpAny_bind (L1.at ?_)))))))
  show wpAny _ _ (holding [_] (call _ _)>>=ret) _ _ _
  refine wpAny_bind (wpAny_holding (wpAny_call (class_get (s:=⟨hh,gg,d,t,os⟩) (ox:=ox) (od:=none) X I c.hm ?_)))
  exact wpAny_pure h
theorem err_call {tk:Tok} {R:Result→Shared→Prop} (c:ClsE K C) (X:K.In s.heap) (I:PySem.W.InstAt s.heap x ox C none) (h:R (.ok (.ret (.ref C))) s):codeAny (model prog w) A (.call (.builtin "BaseException.__getattribute__") ⟨[.ref x,.str "__class__" tk],[]⟩) R s:=by
  have L0:=I.type (M:=model prog w)
  have L1:=looks_mroIn (M:=model prog w) X c.hb
  have LI:Looks (model prog w) s.heap (isInstance (.ref x) (.type "BaseException")) true:=L0.andThen L1
  obtain ⟨hh,gg,d,t,os⟩:=s
  refine codeAny_call_builtin F.excAttr_ValueError.ga.plain F.entry_bexc_ga ?_
  have hk:builtinKind "BaseException.__getattribute__"=some .slot:=by decide +kernel
  have hsplit:splitId "BaseException.__getattribute__"=some ("BaseException","__getattribute__"):=by decide +kernel
  have ha:=F.args_bexc_ga (.ref x) (.str "__class__" tk)
  simp only [checkBuiltinCall,hk,hsplit]
  refine wpAny_bind (LI.at ?_)
  simp only [Bool.not_true,Bool.false_eq_true,if_false]
  unfold argsOk at ha
  generalize Manifest.signature? "BaseException.__getattribute__"=o at ha⊢
  cases o with
  | none=>exact wpAny_pure (err_entry (s:=⟨hh,gg,d,t,os⟩) c X I h)
  | some sig =>
    have ha':Bind.checkArgs "BaseException.__getattribute__" sig ⟨[.ref x,.str "__class__" tk],[]⟩=pure ():=ha
    show wpAny _ _ (Bind.checkArgs "BaseException.__getattribute__" sig ⟨[.ref x,.str "__class__" tk],[]⟩) _ _ _
    rw [ha']
    exact wpAny_pure (err_entry (s:=⟨hh,gg,d,t,os⟩) c X I h)
theorem err_class {Q:Option Value→Shared→Prop} (c:ClsE K C) (X:K.In s.heap) (I:PySem.W.InstAt s.heap x ox C none) (h:Q (some (.ref C)) {s with toks:=s.toks+1}):wpAny (model prog w) A (getAttr? (.ref x) "__class__") Q E s:=by
  obtain ⟨hh,gg,d,t,os⟩:=s
  have L0:=I.type (M:=model prog w)
  have L1:=looks_findIn (M:=model prog w) X c.hg
  have L2:=looks_findIn (M:=model prog w) X c.hh
  unfold getAttr? getAttrBy? getAttrBy
  refine wpAny_bind (wpAny_mkText (wpAny_bind (wpAny_attempt (wpAny_holding (wpAny_bind (L0.at (wpAny_bind (L1.at ?_))))))))
  have hx2:(Value.builtin "BaseException.__getattribute__"==Value.builtin "object.__getattribute__")=false:=by decide +kernel
  have hx1:(onTheHeap (Value.ref C)&&Value.builtin "BaseException.__getattribute__"==Value.builtin "object.__getattribute__")=false:=by rw [hx2];rfl
  simp only [hx1,Bool.false_eq_true,if_false]
  unfold getAttrByItsOwn hookBefore callGetattribute boundAndCalled
  simp only [onTheHeap,if_true,Bool.false_and,Bool.false_eq_true,if_false]
  refine wpAny_bind (L2.at (wpAny_bind (wpAny_attempt (wpAny_holding ?_))))
  rw [F.excAttr_ValueError.ga.bind (.ref x)]
  refine wpAny_bind (wpAny_pure (wpAny_call (err_call (s:=⟨hh,gg,d,t+1,os⟩) c X I ?_)))
  exact handed_on rfl (wpAny_pure h)
theorem kitx_err (c:ClsE K C):KitX K (.ref x) (.ref C) (fun h=>∃ ox,PySem.W.InstAt h x ox C none) where
  ty:=fun _ _ _ ⟨_,I⟩=>I.type
  it:=fun _ _ X _=>by
    obtain ⟨cd,q⟩:=cls_some c.hm
    unfold clsIn at q
    split at q
    · rename_i a1 a2 a3 a4 look
      intro A' Q' E' s' keep z
      unfold isType loadHead
      exact wpAny_bind (wpAny_loadPart (keep _ _ (X _ _ look)) (wpAny_pure z))
    · cases q
  ne:=fun h tp dd its n sl X htp=>by
    obtain ⟨cd,q⟩:=cls_some c.hm
    refine Bool.eq_false_iff.mpr fun same=>?_
    have e:C=tp:=Value.ref.inj (beq_iff_eq.mp same)
    subst e
    unfold clsIn at q
    split at q
    · rename_i a1 a2 a3 a4 look
      cases (X _ _ look).symm.trans htp
    · cases q
  ca:=fun X ⟨_,I⟩ k=>err_class c X I k
end
section
variable {X:Cx}
theorem exc_at {P:Program} {w:World} {H:Hp} {h:Heap} {x C:Addr} (ok:HOk P w H h) (e:H x=some (excO x C)):∃ ox,PySem.W.InstAt h x ox C none:=by
  obtain ⟨⟨o,a1,a2,a3,vs,a4⟩,_⟩:=(show ObjOk P w H h x (excO x C) from ok x _ e)
  refine ⟨o,a1,a2,?_,?_⟩
  · unfold notCls
    rw [a4]
  · rw [a3];exact trivial
theorem call_isiE:CallR X (.builtin "isinstance") (fun xs H Q=>∃ x C b,∃ d:V,∃ dv:Value,xs=[.ref x,d]∧H x=some (excO x C)∧ClsE X.K C∧(∀ u,RelV d u→u=dv)∧kitOne X.K (.ref C) dv=some b∧Q (.bl b) H):=by
  intro pins s σ H xs us Q I r h
  obtain ⟨x,C,b,d,dv,rfl,hx,c,hdv,e,q⟩:=h
  obtain ⟨u,v,rfl,rx,ry⟩:=vals2 r
  cases (show u=Value.ref x from rx)
  cases hdv v ry
  exact kia_one (kitx_err c) I.kIn (exc_at I.hok hx) e (fun z=>nomatch z) fun tk=>⟨.bl b,H,I.tok tk,rfl,q⟩
end
end L2
namespace L2
open PySem PySem.Spec PyProof.Rows
noncomputable def spOr (a b:Sp):Sp:=fun vs H Q E=>a vs H Q E∨b vs H Q E
section
variable {P:Program} {w:World} {K:PySem.W.Frag} {mg:Str→Option Value} {base:Heap} {CX:CXT} {k:Nat} {f:Addr} {fd:FuncData} {ps:List Str} {sp sp':Sp} {x:Str}
theorem FnOk.or (F:FnOk P w K mg base CX k f fd ps sp) (G:FnOk P w K mg base CX k f fd ps sp'):FnOk P w K mg base CX k f fd ps (spOr sp sp') :=
  ⟨fun vs H Q E h=>h.elim (F.len vs H Q E) (G.len vs H Q E),fun A outer s H args us vs Q E hr he hb hv hs=>hs.elim (F.run A outer s H args us vs Q E hr he hb hv) (G.run A outer s H args us vs Q E hr he hb hv)⟩
structure Def1 (P:Program) (w:World) (K:PySem.W.Frag) (mg:Str→Option Value) (base:Heap) (k:Nat) (x:Str) (ps:List Str) (sp:Sp):Prop where
  ex:∃ f fd,FnOk P w K mg base (CX1 P w) k f fd ps sp∧mg x=some (.ref f)∧PySem.W.keepIn K (.ref f)=true∧Binds K fd ps []
end
section
variable {P:Program} {w:World} {K:PySem.W.Frag} {mg:Str→Option Value} {base:Heap} {N:List Str} {qual:Str} {scope:Scope} {f:Addr} {cd:Value} {A:Around} {outer:List Env} {s:Shared} {H:Hp} {E:XK} {k:Nat} {x:Str} {ps:List Str} {sp:Sp} {e:Expr} {es:List Expr} {t:TA} {p pos:Pos}
theorem pe_fn1 (D:Def1 P w K mg base k x ps sp) (hr:Room k (cxOf (CX1 P w) P w K mg base N qual scope f cd A outer s H E).A) (hg:Gl (cxOf (CX1 P w) P w K mg base N qual scope f cd A outer s H E) x) (ha:PA (cxOf (CX1 P w) P w K mg base N qual scope f cd A outer s H E) (e::es) t)
    (hdb:(x==("__debug__":Str))=false:=by decide) (he:starEach (e::es) (cxOf (CX1 P w) P w K mg base N qual scope f cd A outer s H E).env=(false,eval e (cxOf (CX1 P w) P w K mg base N qual scope f cd A outer s H E).env)::starEach es (cxOf (CX1 P w) P w K mg base N qual scope f cd A outer s H E).env:=by rfl)
    (hpl:(backTo pos (starEach es (cxOf (CX1 P w) P w K mg base N qual scope f cd A outer s H E).env)).any (·.1)=false:=by rfl):PE (cxOf (CX1 P w) P w K mg base N qual scope f cd A outer s H E) (.Call (.Name x p) (e::es) [] pos) (tCall sp [] E t):=by
  obtain ⟨f',fd,G,h1,h2,h3⟩:=D.ex
  exact pe_call G hr hg h1 h2 h3 .nil passes1 ha hdb he hpl
end
section
variable {X:Cx} {k:Nat} {x:Str} {ps:List Str} {sp:Sp} {e:Expr} {es:List Expr} {t:TA} {p pos epos:Pos}
end
end L2
namespace Hv
open PySem L2
section
variable {P:Program} {w:World} {K:PySem.W.Frag} {mg:Str→Option Value} {base h:Heap}
noncomputable def cs (l:List Addr):Nat→Addr:=fun j=>l.getD j 0
end
end Hv
namespace Hv
open PySem L2
structure Kind (K:PySem.W.Frag) (c:Nat→Addr) (C:Addr) (i:Nat):Prop where
  cl:ClsE K C
  lt:i<10
  kt:∀ j,j<10→PySem.W.kitOne K (.ref C) (.ref (c j))=some (decide (i=j))
  kv:PySem.W.kitOne K (.ref C) (.type "ValueError")=some true
structure ErrNames (mg:Str→Option Value) (c:Nat→Addr):Prop where
  n0:mg "NoFrame"=some (.ref (c 0))
  n1:mg "NoNumber"=some (.ref (c 1))
  n2:mg "NoPart"=some (.ref (c 2))
  n3:mg "NoSum"=some (.ref (c 3))
  n4:mg "NoMiss"=some (.ref (c 4))
  n5:mg "NoEven"=some (.ref (c 5))
  n6:mg "NoFrames"=some (.ref (c 6))
  n7:mg "NoText"=some (.ref (c 7))
  n8:mg "NoName"=some (.ref (c 8))
  n9:mg "NoRow"=some (.ref (c 9))
  ve:mg "ValueError"=none
theorem boot_VE:bootBuiltins "ValueError"=some (.type "ValueError"):=by first | exact PyProof.Rows.boot_ValueError | rfl
noncomputable def tK (K:PySem.W.Frag) (c:Addr):TE:=fun σ H Q=>∃ x C b,σ[0]?=some (some (.ref x))∧H x=some (excO x C)∧ClsE K C∧PySem.W.kitOne K (.ref C) (.ref c)=some b∧Q (.bl b) H
theorem pk {X:Cx} {c:Addr} {nm cn:Str} {q0 p q pos:Pos} (hi:X.mg "isinstance"=none) (hm:X.mg nm=some (.ref c)) (hv:PE X (.Name cn q0) (tVar 0)) (hg:Gl X "isinstance") (hg2:Gl X nm) (hd:(nm==("__debug__":Str))=false:=by decide):PE X (.Call (.Name "isinstance" p) [.Name cn q0,.Name nm q] [] pos) (tK X.K c) :=
  weak (pe_callB call_isiE hg hi boot_isinstance (pa_cons hv (pa_cons (pe_glob (v:=.ref c) hg2 hm rfl hd) pa_nil))) fun σ H Q h=>by
    obtain ⟨x,C,b,h1,h2,h3,h4,q⟩:=h
    exact ⟨_,h1,x,C,b,_,_,rfl,h2,h3,fun _ r=>r,h4,q⟩
noncomputable def wordsL:List Str:=["frame","number","part","sum","miss","even","frames","text","name","row"]
theorem words_ok:(wordsL.all fun x=>PyData.canLay0 (.str x))=true:=by decide +kernel
noncomputable def spKind (K:PySem.W.Frag) (c:Nat→Addr):Sp:=fun vs H Q _=>∃ x C,∃ i:Nat,∃ wd:Str,∃ w:Str,vs=[.ref x,.str w]∧PyData.canLay0 (.str w)=true∧H x=some (excO x C)∧Kind K c C i∧wordsL[i]?=some wd∧∀ H',Same H H'→Q (.bl (decide (wd=w))) H'
@[irreducible] noncomputable def wE:Expr:=(.List [(.Constant (.str "frame") 0 ⟨335,13,335,20⟩),(.Constant (.str "number") 0 ⟨335,22,335,30⟩),(.Constant (.str "part") 0 ⟨335,32,335,38⟩),(.Constant (.str "sum") 0 ⟨335,40,335,45⟩),(.Constant (.str "miss") 0 ⟨335,47,335,53⟩),(.Constant (.str "even") 0 ⟨335,55,335,61⟩),(.Constant (.str "frames") 0 ⟨335,63,335,71⟩),(.Constant (.str "text") 0 ⟨335,73,335,79⟩),(.Constant (.str "name") 0 ⟨335,81,335,87⟩),(.Constant (.str "row") 0 ⟨335,89,335,94⟩)] ⟨335,12,335,95⟩)
theorem wE_eq:wE=(.List [(.Constant (.str "frame") 0 ⟨335,13,335,20⟩),(.Constant (.str "number") 0 ⟨335,22,335,30⟩),(.Constant (.str "part") 0 ⟨335,32,335,38⟩),(.Constant (.str "sum") 0 ⟨335,40,335,45⟩),(.Constant (.str "miss") 0 ⟨335,47,335,53⟩),(.Constant (.str "even") 0 ⟨335,55,335,61⟩),(.Constant (.str "frames") 0 ⟨335,63,335,71⟩),(.Constant (.str "text") 0 ⟨335,73,335,79⟩),(.Constant (.str "name") 0 ⟨335,81,335,87⟩),(.Constant (.str "row") 0 ⟨335,89,335,94⟩)] ⟨335,12,335,95⟩):=by unfold wE;rfl
noncomputable def tWords:TE:=fun _ H Q=>∀ l,H l=none→Q (.ref l) (upd H l (.lst (wordsL.map V.str)))
theorem pe_words {X:Cx}:PE X wE tWords:=by
  rw [wE_eq]
  refine weak (t:=tLst (tCons (tC (.str "frame")) (tCons (tC (.str "number")) (tCons (tC (.str "part")) (tCons (tC (.str "sum")) (tCons (tC (.str "miss")) (tCons (tC (.str "even")) (tCons (tC (.str "frames")) (tCons (tC (.str "text")) (tCons (tC (.str "name")) (tCons (tC (.str "row")) tNil))))))))))) ?_ fun σ H Q h=>⟨sz (by decide),fun l hl=>h l hl⟩
  refine pe_lst ?_
  refine pa_cons pe_str ?_
  refine pa_cons pe_str ?_
  refine pa_cons pe_str ?_
  refine pa_cons pe_str ?_
  refine pa_cons pe_str ?_
  refine pa_cons pe_str ?_
  refine pa_cons pe_str ?_
  refine pa_cons pe_str ?_
  refine pa_cons pe_str ?_
  refine pa_cons pe_str ?_
  exact pa_nil
theorem eqv_strs (a b:Str):PyData.eqv (.list [.str a]) (.list [.str b])=decide (a=b):=by
  simp [PyData.eqv,PyData.eqvAll]
  try rfl
noncomputable abbrev stK (i:Nat):Stmt:=(defBody sLawKind).getD i (.Pass ⟨0,0,0,0⟩)
theorem kbody_eq:defBody sLawKind=stK 0::stK 1::stK 2::.Assign [(.Name "words" ⟨335,4,335,9⟩)] wE ⟨335,4,335,95⟩::(defBody sLawKind).drop 4:=by rw [wE_eq];rfl
section
variable {P:Program} {w:World} {K:PySem.W.Frag} {mg:Str→Option Value} {base:Heap} {c:Nat→Addr}
theorem scKind:FnScope ["e","due","kinds","words","found"] ["e","due"] (defScope sLawKind):=⟨rfl,rfl,rfl,by decide +kernel,rfl,by decide +kernel,by decide +kernel⟩
theorem ok_kind {f:Addr} {fd:FuncData} (F:Fun K "_law_kind" "_law_kind" sLawKind f fd) (T:Txt mg) (N:ErrNames mg c):FnOk P w K mg base CX0 1 f fd ["e","due"] (spKind K c):=by
  refine F.ok scKind (fun vs H Q E h=>?_) (fun cdv A outer s H vs Q E hr h=>?_)
  · obtain ⟨x,C,i,wd,wv,rfl,_⟩:=h;rfl
  · obtain ⟨x,C,i,wd,wv,rfl,hok,hx,kd,hw,k⟩:=h
    have hwd:PyData.canLay0 (.str wd)=true:=List.all_eq_true.mp words_ok wd (List.mem_of_getElem? hw)
    have nd:=scKind.nd
    have hu:=hr.units
    have nd2:List.Nodup (["word","kind"]:List Str):=by decide +kernel
    rw [kbody_eq]
    refine ⟨_,(pss_cons (ps_set (i:=2) nd rfl (Or.inl rfl) (pe_lst (pa_cons (pk T.isi N.n0 (pv 0) (by rfl) (by rfl)) (pa_cons (pk T.isi N.n1 (pv 0) (by rfl) (by rfl)) (pa_cons (pk T.isi N.n2 (pv 0) (by rfl) (by rfl)) (pa_cons (pk T.isi N.n3 (pv 0) (by rfl) (by rfl)) pa_nil))))))
      (pss_cons (ps_set (i:=2) nd rfl (Or.inl rfl) (pe_op op_cat (pv 2) (pe_lst (pa_cons (pk T.isi N.n4 (pv 0) (by rfl) (by rfl)) (pa_cons (pk T.isi N.n5 (pv 0) (by rfl) (by rfl)) (pa_cons (pk T.isi N.n6 (pv 0) (by rfl) (by rfl)) pa_nil))))))
      (pss_cons (ps_set (i:=2) nd rfl (Or.inl rfl) (pe_op op_cat (pv 2) (pe_lst (pa_cons (pk T.isi N.n7 (pv 0) (by rfl) (by rfl)) (pa_cons (pk T.isi N.n8 (pv 0) (by rfl) (by rfl)) (pa_cons (pk T.isi N.n9 (pv 0) (by rfl) (by rfl)) pa_nil))))))
      (pss_cons (ps_set (i:=3) nd rfl (Or.inl rfl) pe_words (hs:=by rw [wE_eq];rfl))
      (pss_cons (ps_comp (i:=4) (N:=["word","kind"]) (k:=2) (fr:=[]) nd rfl (Or.inl rfl) (cmpS (sc:=defScope sLawKind) (NX:=["e","due","kinds","words","found"]) (k:=2) (fr:=[]) rfl rfl (by decide +kernel)) (cmpF (sc:=defScope sLawKind) (NX:=["e","due","kinds","words","found"]) rfl (by decide +kernel)) rfl (pi_zip (by rfl) T.zip (pv 3) (pv 2)) (fun cl C s H fp=>pg_tupK K rfl rfl (pgs_cons (pg_name (i:=0) nd2 rfl (Or.inl rfl)) (pgs_cons (pg_name (i:=1) nd2 rfl (Or.inl rfl)) pgs_nil))) gk_two (fun cl C s H fp=>pf_one (pt_val (pv 1))) (fun cl C s H fp=>pv 0) (by rfl))
      (pss_one (ps_ret (pe_and (pe_callB call_isiE (by rfl) T.isi boot_isinstance (pa_cons (pv 0) (pa_cons (pe_ty N.ve boot_VE) pa_nil))) (pe_one (pe_cmpR (op_eqD hu) (pv 4) (pe_lst (pa_cons (pv 1) pa_nil)) (nomark _))))))))))),?_⟩
    refine ⟨x,C,_,rfl,hx,kd.cl,kd.kt 0 (by decide),⟨x,C,_,rfl,hx,kd.cl,kd.kt 1 (by decide),⟨x,C,_,rfl,hx,kd.cl,kd.kt 2 (by decide),⟨x,C,_,rfl,hx,kd.cl,kd.kt 3 (by decide),⟨sz (by simp),fun l1 hl1=>?_⟩⟩⟩⟩⟩
    have s1:=same_upd (o:=.lst [.bl (decide (i=0)),.bl (decide (i=1)),.bl (decide (i=2)),.bl (decide (i=3))]) hl1
    have u1:(upd H l1 (.lst [.bl (decide (i=0)),.bl (decide (i=1)),.bl (decide (i=2)),.bl (decide (i=3))])) l1=_:=upd_same
    generalize upd H l1 (.lst [.bl (decide (i=0)),.bl (decide (i=1)),.bl (decide (i=2)),.bl (decide (i=3))])=H1 at s1 u1⊢
    have hx2:=s1 _ _ hx
    refine ⟨_,rfl,⟨x,C,_,rfl,hx2,kd.cl,kd.kt 4 (by decide),⟨x,C,_,rfl,hx2,kd.cl,kd.kt 5 (by decide),⟨x,C,_,rfl,hx2,kd.cl,kd.kt 6 (by decide),⟨sz (by simp),fun m2 hm2=>?_⟩⟩⟩⟩⟩
    have t2:=same_upd (o:=.lst [.bl (decide (i=4)),.bl (decide (i=5)),.bl (decide (i=6))]) hm2
    have v2:(upd H1 m2 (.lst [.bl (decide (i=4)),.bl (decide (i=5)),.bl (decide (i=6))])) m2=_:=upd_same
    generalize upd H1 m2 (.lst [.bl (decide (i=4)),.bl (decide (i=5)),.bl (decide (i=6))])=G2 at t2 v2⊢
    refine ⟨l1,m2,_,_,rfl,rfl,t2 _ _ u1,v2,sz (by simp),fun l2 hl2=>?_⟩
    have s2:=(s1.trans t2).trans (same_upd (o:=.lst [.bl (decide (i=0)),.bl (decide (i=1)),.bl (decide (i=2)),.bl (decide (i=3)),.bl (decide (i=4)),.bl (decide (i=5)),.bl (decide (i=6))]) hl2)
    have u2:(upd G2 l2 (.lst [.bl (decide (i=0)),.bl (decide (i=1)),.bl (decide (i=2)),.bl (decide (i=3)),.bl (decide (i=4)),.bl (decide (i=5)),.bl (decide (i=6))])) l2=_:=upd_same
    generalize hH2:upd G2 l2 (.lst [.bl (decide (i=0)),.bl (decide (i=1)),.bl (decide (i=2)),.bl (decide (i=3)),.bl (decide (i=4)),.bl (decide (i=5)),.bl (decide (i=6))])=H2 at s2 u2
    rw [show upd G2 l2 (.lst ([.bl (decide (i=0)),.bl (decide (i=1)),.bl (decide (i=2)),.bl (decide (i=3))]++[.bl (decide (i=4)),.bl (decide (i=5)),.bl (decide (i=6))]))=H2 from hH2]
    have hx3:=s2 _ _ hx
    refine ⟨_,rfl,⟨x,C,_,rfl,hx3,kd.cl,kd.kt 7 (by decide),⟨x,C,_,rfl,hx3,kd.cl,kd.kt 8 (by decide),⟨x,C,_,rfl,hx3,kd.cl,kd.kt 9 (by decide),⟨sz (by simp),fun m3 hm3=>?_⟩⟩⟩⟩⟩
    have t3:=same_upd (o:=.lst [.bl (decide (i=7)),.bl (decide (i=8)),.bl (decide (i=9))]) hm3
    have v3:(upd H2 m3 (.lst [.bl (decide (i=7)),.bl (decide (i=8)),.bl (decide (i=9))])) m3=_:=upd_same
    generalize upd H2 m3 (.lst [.bl (decide (i=7)),.bl (decide (i=8)),.bl (decide (i=9))])=G3 at t3 v3⊢
    refine ⟨l2,m3,_,_,rfl,rfl,t3 _ _ u2,v3,sz (by simp),fun l3 hl3=>?_⟩
    have s3:=(s2.trans t3).trans (same_upd (o:=.lst [.bl (decide (i=0)),.bl (decide (i=1)),.bl (decide (i=2)),.bl (decide (i=3)),.bl (decide (i=4)),.bl (decide (i=5)),.bl (decide (i=6)),.bl (decide (i=7)),.bl (decide (i=8)),.bl (decide (i=9))]) hl3)
    have u3:(upd G3 l3 (.lst [.bl (decide (i=0)),.bl (decide (i=1)),.bl (decide (i=2)),.bl (decide (i=3)),.bl (decide (i=4)),.bl (decide (i=5)),.bl (decide (i=6)),.bl (decide (i=7)),.bl (decide (i=8)),.bl (decide (i=9))])) l3=_:=upd_same
    generalize hH3:upd G3 l3 (.lst [.bl (decide (i=0)),.bl (decide (i=1)),.bl (decide (i=2)),.bl (decide (i=3)),.bl (decide (i=4)),.bl (decide (i=5)),.bl (decide (i=6)),.bl (decide (i=7)),.bl (decide (i=8)),.bl (decide (i=9))])=H3 at s3 u3
    rw [show upd G3 l3 (.lst ([.bl (decide (i=0)),.bl (decide (i=1)),.bl (decide (i=2)),.bl (decide (i=3)),.bl (decide (i=4)),.bl (decide (i=5)),.bl (decide (i=6))]++[.bl (decide (i=7)),.bl (decide (i=8)),.bl (decide (i=9))]))=H3 from hH3]
    have ek:([.bl (decide (i=0)),.bl (decide (i=1)),.bl (decide (i=2)),.bl (decide (i=3)),.bl (decide (i=4)),.bl (decide (i=5)),.bl (decide (i=6)),.bl (decide (i=7)),.bl (decide (i=8)),.bl (decide (i=9))]:List V)=(List.range 10).map fun j=>V.bl (decide (i=j)):=rfl
    rw [ek] at u3
    -- words
    intro q hq
    have s4:=s3.trans (same_upd (o:=.lst (wordsL.map V.str)) hq)
    have u4:(upd H3 q (.lst (wordsL.map V.str))) q=_:=upd_same
    have k4:(upd H3 q (.lst (wordsL.map V.str))) l3=_:=(same_upd (o:=.lst (wordsL.map V.str)) hq) _ _ u3
    generalize upd H3 q (.lst (wordsL.map V.str))=H4 at s4 u4 k4⊢
    refine ⟨_,rfl,_,rfl,q,l3,rfl,rfl,⟨_,SqL.of u4⟩,⟨_,SqL.of k4⟩,comp_zip (K:=K) (a:=q) (b:=l3) (xs:=wordsL.map V.str) (ys:=(List.range 10).map fun j=>V.bl (decide (i=j)))
      (fun m zs H'=>zs=(if i<m then [V.str wd] else [])∧Same H4 H') rfl ⟨by simp,Same.refl _⟩ (fun m zs H' _ p=>⟨SqL.of (p.2 _ _ u4),SqL.of (p.2 _ _ k4)⟩)
      (fun m zs H' hi p=>szl (by rw [p.1];split <;> simp)) ?_ ?_⟩
    · rintro m x1 y1 zs H' t hx1 hy1 ⟨rfl,s'⟩ ht
      obtain ⟨w1,hw1,rfl⟩:∃ w1,wordsL[m]?=some w1∧x1=.str w1:=by
        rw [List.getElem?_map] at hx1
        cases e:wordsL[m]? with
        | none=>rw [e] at hx1;cases hx1
        | some d=>rw [e] at hx1;exact ⟨d,rfl,(Option.some.inj hx1).symm⟩
      have hm:m<10:=(List.getElem?_eq_some_iff.mp hw1).1
      have ey:y1=V.bl (decide (i=m)):=by
        rw [List.getElem?_map,List.getElem?_range hm] at hy1
        exact (Option.some.inj hy1).symm
      subst ey
      have st:=s'.trans (same_upd (o:=.tup [.str w1,.bl (decide (i=m))]) ht)
      refine ⟨t,_,rfl,SqT.of upd_same,rfl,_,_,rfl,_,_,rfl,rfl,_,rfl,_,rfl,?_⟩
      refine ite2 (fun h=>?_) (fun h=>?_)
      · have e:i=m:=of_decide_eq_true h
        subst e
        have ew:w1=wd:=by rw [hw] at hw1;exact (Option.some.inj hw1).symm
        subst ew
        refine ⟨_,rfl,?_,st⟩
        rw [if_neg (by lia),if_pos (by lia)]
        rfl
      · have e:¬ i=m:=fun z=>h (decide_eq_true z)
        refine ⟨?_,st⟩
        by_cases h2:i<m
        · rw [if_pos h2,if_pos (by lia)]
        · rw [if_neg h2,if_neg (by lia)]
    rintro zs H' ⟨rfl,s'⟩ r hr'
    have hi10:i<(wordsL.map V.str).length:=kd.lt
    rw [if_pos hi10]
    have s5:=s4.trans (s'.trans (same_upd (o:=.lst [.str wd]) hr'))
    have u5:(upd H' r (.lst [.str wd])) r=_:=upd_same
    generalize upd H' r (.lst [.str wd])=H5 at s5 u5⊢
    refine ⟨_,rfl,x,C,_,_,_,rfl,s5 _ _ hx,kd.cl,fun _ r=>r,kd.kv,true,rfl,iteT ?_⟩
    refine ⟨_,rfl,_,rfl,sz (by simp),fun p hp=>?_⟩
    have s6:=s5.trans (same_upd (o:=.lst [.str wv]) hp)
    refine ⟨.list [.str wd],.list [.str wv],datL ((same_upd (o:=.lst [.str wv]) hp) _ _ u5) (.cons (datS wd) .nil),datL upd_same (.cons (datS wv) .nil),⟨by simp only [PyData.canLay0,PyData.canLayAll0] at hwd⊢;simp [hwd],by simp only [PyData.canLay0,PyData.canLayAll0] at hok⊢;simp [hok],by simp [PyData.depth,PyData.depthAll]⟩,?_⟩
    rw [if_neg (by decide),eqv_strs]
    exact k _ s6
end
end Hv
namespace L2
open PySem PySem.Spec PyProof.Rows
section
variable {X:Cx} {k:Nat} {f:Addr} {fd:FuncData} {ps:List Str} {sp:Sp} {x n:Str} {p pn pos apos:Pos} {e:Expr} {es:List Expr} {t:TA} {i:Nat}
end
end L2
namespace Hv
open PySem L2 PySem.Spec PyProof.Rows
structure MDef1 (P:Program) (w:World) (K:PySem.W.Frag) (mg:Str→Option Value) (base:Heap) (k:Nat) (C:Addr) (m:Str) (ps:List Str) (sp:Sp):Prop where
  ex:∃ f fd,FnOk P w K mg base (CX1 P w) k f fd ps sp∧Meth K C m f∧Binds K fd ps []
section
variable {X:Cx} {k:Nat} {C:Addr} {m n:Str} {ps:List Str} {sp:Sp} {e o:Expr} {es:List Expr} {t:TA} {ta:TE} {pn pos apos spos:Pos} {i:Nat}
noncomputable def xMSet (C:Addr) (m:Str) (sp:Sp) (i:Nat) (ta:TE) (t:TA):TX:=fun D R σ H=>ta σ H fun x H1=>∃ a dx fs,x=.ref a∧H1 a=some (.ins C dx fs)∧fs.lookup m=none∧t σ H1 fun vs H2=>sp (x::vs) H2 (fun v H3=>D.nx (σ.set i (some v)) H3) (fun C' _ H3=>∃ A,C'=.ref A∧R σ A H3)
theorem px_mset {pl:Sem Bool} (c:Cls X.K C) (D:MDef1 X.prog X.w X.K X.mg X.base k C m ps sp) (hN:X.N.Nodup) (hi:X.N[i]?=some n) (hx:Loc X.env.scope n) (hr:Room k X.A) (ho:PE X.nox o ta) (ha:PA X.nox (e::es) t)
    (hst:starEach (e::es) X.env=(false,eval e X.env)::starEach es X.env:=by rfl) (hpl:(backTo pos (starEach es X.env)).any (·.1)=false:=by rfl)
    (ht:eval (.Call (.Attribute o m apos) (e::es) [] pos) X.env=(do
      let ov ← eval o X.env
      standAt apos.atName
      let (f,first) ← holding [ov] (getMethod ov m pl)
      callWith pos f first (backTo pos (starEach (e::es) X.env)) (backToKw pos (keywordEach [] X.env))):=by rfl)
    (hs:swapsWith (.Call (.Attribute o m apos) (e::es) [] pos) (some (.Name n pn)) spos.line X.env=pure false:=by rfl) (hf:X.fn n=true∨X.env.scope.names.lookup n=some .local:=by first | exact .inl rfl | exact .inr rfl | assumption):PX X (.Assign [.Name n pn] (.Call (.Attribute o m apos) (e::es) [] pos) spos) (xMSet C m sp i ta t):=by
  obtain ⟨f',fd,F,hm,hb⟩:=D.ex
  intro pins s σ H D R I h
  refine wpAny_Assign_Name ?_ hs
  have hO:wpAny (model X.prog X.w) X.A (eval o X.env) (EP X pins σ fun x H1=>∃ a dx fs,x=.ref a∧H1 a=some (.ins C dx fs)∧fs.lookup m=none∧t σ H1 fun vs H2=>sp (x::vs) H2 (fun v H3=>D.nx (σ.set i (some v)) H3) (fun C' _ H3=>∃ A,C'=.ref A∧R σ A H3)) (XP X pins R) s :=
    wpAny_mono (ho pins s σ H _ (I.wish _) h) (fun u s1 ⟨x,H1,I1,rx,q⟩=>⟨x,H1,I1.unwish,rx,q⟩) fun _ _ z=>False.elim z
  refine PySem.W.methodCall_KW (pl:=pl) (thn hO fun u s1 ⟨x,H1,I1,rx,a,dx,fs,ex,ea,l,q⟩=>?_) ht
  subst ex
  obtain rfl:u=Value.ref a:=rx
  refine getmeth_ok I1 ea c hm l ?_
  have hA:wpAny (model X.prog X.w) X.A (spliced (backTo pos (starEach (e::es) X.env))) (AP X pins σ fun vs H2=>sp (.ref a::vs) H2 (fun v H3=>D.nx (σ.set i (some v)) H3) (fun C' _ H3=>∃ A,C'=.ref A∧R σ A H3)) (XP X pins R) s1 :=
    wpAny_mono (ha pos pins s1 σ H1 _ (I1.wish _) q) (fun us s2 ⟨vs,H2,I2,r,q2⟩=>⟨vs,H2,I2.unwish,r,q2⟩) fun _ _ z=>False.elim z
  refine PySem.W.callWith_K (first:=[.ref a]) (h₀:=X.base) I.ok.mod.kin hm.kp (thn hA fun us s2 ⟨vs,H2,I2,r,q2⟩=>⟨I2.kIn,?_⟩) hst hpl
  have r':Vals (V.ref a::vs) (Value.ref a::us):=.cons rfl r
  have hl:((Value.ref a::us)++[]).length=ps.length:=by rw [List.append_nil,← r'.length];exact F.len _ _ _ _ q2
  have hbb:=hb s2 (Value.ref a::us) I2.kIn hl
  rw [List.append_nil] at hbb
  refine wpAny_call (codeAny_mono (F.run X.A X.stack s2 H2 ⟨Value.ref a::us,[]⟩ (Value.ref a::us) (V.ref a::vs) _ _ hr I2.env0 hbb r' q2) fun rs s' hq=>?_)
  cases rs with
  | error er =>
    obtain ⟨y,C',a0,H',ey,os,bare,un,hok,fly,A0,eA,hR⟩:=hq
    cases eA
    exact ⟨y,C',a0,σ,H2,H',s2,ey,I2,os,bare,un,hok,fly,hR⟩
  | ok fl =>
    cases fl with
    | ret u =>
      obtain ⟨v,H',I',rv,q'⟩:=I2.after hq
      exact store_ok I' hN hi hx rv (fun s2 I2=>⟨_,H',I2,q'⟩) hf
    | next=>exact False.elim hq
    | brk=>exact False.elim hq
    | cont=>exact False.elim hq
theorem px_mset0 {pl:Sem Bool} (c:Cls X.K C) (D:MDef1 X.prog X.w X.K X.mg X.base k C m ps sp) (hN:X.N.Nodup) (hi:X.N[i]?=some n) (hx:Loc X.env.scope n) (hr:Room k X.A) (ho:PE X.nox o ta)
    (ht:eval (.Call (.Attribute o m apos) [] [] pos) X.env=(do
      let ov ← eval o X.env
      standAt apos.atName
      let (f,first) ← holding [ov] (getMethod ov m pl)
      callWith pos f first (backTo pos (starEach [] X.env)) (backToKw pos (keywordEach [] X.env))):=by rfl)
    (hs:swapsWith (.Call (.Attribute o m apos) [] [] pos) (some (.Name n pn)) spos.line X.env=pure false:=by rfl) (hf:X.fn n=true∨X.env.scope.names.lookup n=some .local:=by first | exact .inl rfl | exact .inr rfl | assumption):PX X (.Assign [.Name n pn] (.Call (.Attribute o m apos) [] [] pos) spos) (xMSet C m sp i ta tNil):=by
  obtain ⟨f',fd,F,hm,hb⟩:=D.ex
  intro pins s σ H D R I h
  refine wpAny_Assign_Name ?_ hs
  have hO:wpAny (model X.prog X.w) X.A (eval o X.env) (EP X pins σ fun x H1=>∃ a dx fs,x=.ref a∧H1 a=some (.ins C dx fs)∧fs.lookup m=none∧tNil σ H1 fun vs H2=>sp (x::vs) H2 (fun v H3=>D.nx (σ.set i (some v)) H3) (fun C' _ H3=>∃ A,C'=.ref A∧R σ A H3)) (XP X pins R) s :=
    wpAny_mono (ho pins s σ H _ (I.wish _) h) (fun u s1 ⟨x,H1,I1,rx,q⟩=>⟨x,H1,I1.unwish,rx,q⟩) fun _ _ z=>False.elim z
  refine PySem.W.methodCall_KW (pl:=pl) (thn hO fun u s1 ⟨x,H1,I1,rx,a,dx,fs,ex,ea,l,q⟩=>?_) ht
  subst ex
  obtain rfl:u=Value.ref a:=rx
  refine getmeth_ok I1 ea c hm l ?_
  have q2:sp [.ref a] H1 (fun v H3=>D.nx (σ.set i (some v)) H3) (fun C' _ H3=>∃ A,C'=.ref A∧R σ A H3):=q
  have r':Vals [V.ref a] [Value.ref a]:=.cons rfl .nil
  have hl:([Value.ref a]++[]).length=ps.length:=by rw [List.append_nil,← r'.length];exact F.len _ _ _ _ q2
  have hbb:=hb s1 [Value.ref a] I1.kIn hl
  rw [List.append_nil] at hbb
  refine PySem.W.callWith_K0 (first:=[.ref a]) I1.kIn hm.kp ?_
  refine wpAny_call (codeAny_mono (F.run X.A X.stack s1 H1 ⟨[Value.ref a],[]⟩ [Value.ref a] [V.ref a] _ _ hr I1.env0 hbb r' q2) fun rs s' hq=>?_)
  cases rs with
  | error er =>
    obtain ⟨y,C',a0,H',ey,os,bare,un,hok,fly,A0,eA,hR⟩:=hq
    cases eA
    exact ⟨y,C',a0,σ,H1,H',s1,ey,I1,os,bare,un,hok,fly,hR⟩
  | ok fl =>
    cases fl with
    | ret u =>
      obtain ⟨v,H',I',rv,q'⟩:=I1.after hq
      exact store_ok I' hN hi hx rv (fun s2 I2=>⟨_,H',I2,q'⟩) hf
    | next=>exact False.elim hq
    | brk=>exact False.elim hq
    | cont=>exact False.elim hq
end
end Hv
namespace Hv
open PySem L2
noncomputable def BadW (c2 c1:Addr) (n:Nat) (pl wt:V) (H:Hp) (E:XK):Prop:=(betw pl 0 ((n:Int) - 1)=false∧∀ H',Same H H'→E (.ref c2) none H')∨(betw pl 0 ((n:Int) - 1)=true∧betw wt (-9) 9=false∧∀ H',Same H H'→E (.ref c1) none H')
noncomputable def spNoWith (c2 c1:Addr):Sp:=fun vs H _ E=>∃ (f a c:Addr) (b:Nat) (ps:List Nat) (ws:List Int) (pl wt:V),vs=[.ref f,pl,wt]∧FrAt H f a c b ps ws∧Thing H pl∧Thing H wt∧BadW c2 c1 ws.length pl wt H E
noncomputable def spNoWeigh (C c2 c1:Addr):Sp:=fun vs H _ E=>∃ (kp dx sl:Addr) (as:List AF) (b:Nat) (ps:List Nat) (ini:List (List Int)) (ws:List Int) (pl wt:V),vs=[.ref kp,pl,wt]∧KpAt C H kp dx sl as b ps (ini++[ws])∧Thing H pl∧Thing H wt∧BadW c2 c1 ws.length pl wt H E
noncomputable def spNoUndo (C c1:Addr):Sp:=fun vs H _ E=>∃ (kp dx sl:Addr) (as:List AF) (b:Nat) (ps:List Nat) (ws:List Int),vs=[.ref kp]∧KpAt C H kp dx sl as b ps [ws]∧∀ H',Same H H'→E (.ref c1) none H'
section
variable {P:Program} {w:World} {K:PySem.W.Frag} {mg:Str→Option Value} {base:Heap} {C c1 c2:Addr} {newId initId B newId2 initId2 B2:String} {bmB bmB2:List Value}
theorem ok_with1 {f:Addr} {fd:FuncData} (F:Fun K "with_weight" "with_weight" sWithWeight f fd) (T:Txt mg) (D2:Def P w K mg base 2 "is_between" ["thing","least","greatest"] spBetw) (O2:OwnE base c2 newId initId B bmB) (h2:mg "NoPart"=some (.ref c2)) (O1:OwnE base c1 newId2 initId2 B2 bmB2) (h1:mg "NoNumber"=some (.ref c1)):FnOk P w K mg base (CX1 P w) 3 f fd ["frame","place","weight"] (spNoWith c2 c1):=by
  refine F.ok1 scWithWeight (fun vs H Q E h=>?_) (fun cdv A outer s H vs Q E hr h=>?_)
  · obtain ⟨f,a,c,b,ps,ws,pl,wt,rfl,_⟩:=h;rfl
  · obtain ⟨f,a,c,b,ps,ws,pl,wt,rfl,G,tp,tw,h⟩:=h
    refine ⟨_,pss_cons (ps_if (pt_not (pt_val (pe_fn D2 hr (by rfl) (pa_cons (pv 1) (pa_cons pe_int (pa_cons (pe_op op_sub (lenS T.len (by rfl) (ixt (pv 0) pe_int)) pe_int) pa_nil)))))) (pss_one (ps_raise O2 (by rfl) h2 pe_str)) pss_nil)
      (pss_cons (ps_if (pt_not (pt_val (pe_fn D2 hr (by rfl) (pa_cons (pv 2) (pa_cons (pe_un un_neg pe_int) (pa_cons pe_int pa_nil)))))) (pss_one (ps_raise O1 (by rfl) h1 pe_str)) pss_nil) pss_never),?_⟩
    refine ⟨_,rfl,_,rfl,r_ixt G.tp rfl ⟨c,_,rfl,.inl (SqL.of G.hw),_,_,rfl,rfl,pl,0,_,rfl,tp,_,rfl,?_⟩⟩
    rw [List.length_map]
    rcases h with ⟨e,k⟩ | ⟨e,e2,k⟩
    · rw [e]
      exact iteT (k H (Same.refl _))
    · rw [e]
      refine iteF ⟨_,rfl,_,rfl,wt,-9,9,rfl,tw,_,rfl,?_⟩
      rw [e2]
      exact iteT (k H (Same.refl _))
theorem ok_kweigh1 {f:Addr} {fd:FuncData} (F:Fun K "weigh" "Keeper.weigh" sKeeperWeigh f fd) (cl:Cls K C) (nS:NoAttr K C "standing") (DW:Def1 P w K mg base 3 "with_weight" ["frame","place","weight"] (spOr spWith (spNoWith c2 c1))):FnOk P w K mg base (CX1 P w) 8 f fd ["self","place","weight"] (spNoWeigh C c2 c1):=by
  refine F.ok1 scKeeperWeigh (fun vs H Q E h=>?_) (fun cdv A outer s H vs Q E hr h=>?_)
  · obtain ⟨kp,dx,sl,as,b,ps,ini,ws,pl,wt,rfl,_⟩:=h;rfl
  · obtain ⟨kp,dx,sl,as,b,ps,ini,ws,pl,wt,rfl,S,tp,tw,h⟩:=h
    have nd:=scKeeperWeigh.nd
    obtain ⟨ai,x,rfl,hai,G,e⟩:=S.last
    refine ⟨_,pss_cons (ps_set (i:=3) nd rfl (Or.inl rfl) (ixl (pe_fld (pv 0) rfl) (pe_un un_neg pe_int))) (pss_cons (ps_set (i:=4) nd rfl (Or.inl rfl) (pe_fn1 DW (hr.mono (by decide)) (by rfl) (pa_cons (pv 3) (pa_cons (pv 1) (pa_cons (pv 2) pa_nil))))) pss_never),?_⟩
    exact ⟨_,rfl,kp,C,dx,_,_,rfl,S.ob,cl,nS,stF_get,_,rfl,r_ixl S.ls e ⟨_,rfl,_,rfl,_,rfl,.inr ⟨_,_,_,b,ps,ws,pl,wt,rfl,G,tp,tw,h⟩⟩⟩
theorem ok_kundo1 {f:Addr} {fd:FuncData} (F:Fun K "undo" "Keeper.undo" sKeeperUndo f fd) (cl:Cls K C) (DC:MDef P w K mg base 1 C "changes" ["self"] (spChanges C)) (O1:OwnE base c1 newId initId B bmB) (h1:mg "NoNumber"=some (.ref c1)):FnOk P w K mg base (CX1 P w) 8 f fd ["self"] (spNoUndo C c1):=by
  refine F.ok1 scKeeperUndo (fun vs H Q E h=>?_) (fun cdv A outer s H vs Q E hr h=>?_)
  · obtain ⟨kp,dx,sl,as,b,ps,ws,rfl,_⟩:=h;rfl
  · obtain ⟨kp,dx,sl,as,b,ps,ws,rfl,S,k⟩:=h
    refine ⟨_,pss_cons (ps_if (pt_cmpR op_eq (pe_mt0 cl DC (hr.mono (by decide)) (pv 0)) pe_int (nomark _)) (pss_one (ps_raise O1 (by rfl) h1 pe_str)) pss_nil) pss_never,?_⟩
    refine ⟨_,rfl,kp,dx,_,rfl,S.ob,stF_no (by decide +kernel),kp,dx,sl,as,b,ps,_,rfl,S,rfl,_,rfl,?_⟩
    rw [decide_eq_true (show V.int (((([ws]:List (List Int)).length:Nat):Int) - 1)=V.int 0 from rfl)]
    exact iteT (k H (Same.refl _))
end
end Hv
namespace L2
open PySem PySem.Spec PyProof.Rows
section
variable {X:Cx} {e a b:Expr} {te ta tb:TE}
theorem op_eqDP (P:Program) (w:World) (hP:X.prog=P) (hw:X.w=w) (hu:X.A.units+64<cLine):OpR X (compareOp .Eq) (rEqD P w false):=by
  subst hP hw
  exact op_eqD hu
end
end L2
namespace L2
open PySem PySem.Spec PyProof.Rows
section
variable {X:Cx}
end
theorem cut_from {xs:List V} {k:Nat}:cutV xs (some (k:Int)) none=xs.drop k:=by
  unfold cutV
  rw [HT.sIx_nat,HT.sIx_none]
  rcases Nat.le_total k xs.length with h | h
  · rw [Nat.min_eq_left h,List.take_of_length_le (by rw [List.length_drop];lia)]
  · rw [Nat.min_eq_right h,List.drop_of_length_le (Nat.le_refl _),List.drop_of_length_le h]
    simp
theorem ps_cut {X:Cx} {st:Stmt} {t:TS} (h:PS X st t):PS X st (fun D σ H=>∃ I:St→Hp→Prop,t {D with nx:=I} σ H∧∀ σ' H',I σ' H'→D.nx σ' H'):=fun pins s σ H D I0 ⟨I,ht,hI⟩=>thn (h pins s σ H _ I0 ht) fun f s' hf=>by
  cases f with
  | next=>obtain ⟨σ',H',i,q⟩:=hf;exact ⟨σ',H',i,hI _ _ q⟩
  | brk=>exact hf
  | cont=>exact hf
  | ret u=>exact hf
theorem for_zip {K:PySem.W.Frag} {a b:Addr} {xs ys:List V} {g:TG} {tb:TS} {D:Ends} {σ:St} {H:Hp} (Pv:Nat→St→Hp→Prop) (hlen:xs.length=ys.length) (h0:Pv 0 σ H) (hl:∀ i σ H,i≤xs.length→Pv i σ H→SqL K H a xs∧SqL K H b ys)
    (hs:∀ i x y σ H t,xs[i]?=some x→ys[i]?=some y→Pv i σ H→H t=none→g (.ref t) σ (upd H t (.tup [x,y])) fun σ2 H2=>tb {D with nx:=Pv (i+1),ct:=Pv (i+1),bk:=D.nx} σ2 H2) (hd:∀ σ H,Pv xs.length σ H→D.nx σ H) :
    ∃ W:Nat→Nat→St→Hp→Prop,(∃ m,W 0 m σ H)∧∀ i m σ H,W i m σ H→
      ((Itz K a b).stop i H∧D.nx σ H)∨((Itz K a b).go i H∧∃ N:St→Hp→Prop,(∀ σ' H',N σ' H'→∃ m',m'<m∧W (i+1) m' σ' H')∧∀ x H',(Itz K a b).yld i H x H'→g x σ H' fun σ2 H2=>tb {D with nx:=N,ct:=N,bk:=D.nx} σ2 H2):=by
  refine ⟨fun i m σ H=>m=xs.length - i∧i≤xs.length∧Pv i σ H,⟨xs.length,by simp,Nat.zero_le _,h0⟩,?_⟩
  rintro i m σ H ⟨rfl,hi,p⟩
  obtain ⟨q1,q2⟩:=hl i σ H hi p
  by_cases hlt:i<xs.length
  · have e1:xs[i]?=some xs[i]:=by simp [hlt]
    have e2:ys[i]?=some (ys[i]'(by lia)):=by simp
    refine .inr ⟨⟨xs,ys,_,_,q1,q2,e1,e2⟩,Pv (i+1),fun σ' H' p'=>⟨xs.length - (i+1),by lia,rfl,hlt,p'⟩,fun v H' y=>?_⟩
    obtain ⟨t,x,y,rfl,ht,y1,y2,rfl⟩:=y
    exact hs i x y σ H t (y1 xs q1) (y2 ys q2) p ht
  · have e:i=xs.length:=by lia
    subst e
    exact .inl ⟨⟨xs,ys,q1,q2,.inl (Nat.le_refl _)⟩,hd σ H p⟩
end L2
namespace L2
open PySem PySem.Spec PyProof.Rows
section
variable {prog:Program} {w:World} {A:Around} {E:Value→Shared→Prop} {s:Shared}
end
section
variable {X:Cx} {pos:Pos}
end
end L2
namespace Hv
open PySem L2
noncomputable def RefL (xs:List V):Prop:=∀ v∈xs,∃ a,v=V.ref a
noncomputable def NR (o:HO):Prop:=∀ ys,o=.lst ys→¬ RefL ys
noncomputable def Stay (H H':Hp):Prop:=∀ z o,H z=some o→NR o→H' z=some o
theorem refs_map {α:Type} (g:α→Addr) (l:List α):RefL (l.map fun x=>V.ref (g x)):=fun v hv=>by
  obtain ⟨x,_,rfl⟩:=List.mem_map.mp hv
  exact ⟨_,rfl⟩
theorem Kp.stay {H H':Hp} {y:Addr} {xs:List V} (k:Kp [y] H H') (hy:H y=some (.lst xs)) (hr:RefL xs):Stay H H':=fun z o e n=>k z o e (fun hz=>by
  rw [List.mem_singleton.mp hz,hy] at e
  exact n xs (Option.some.inj e).symm hr)
theorem same_stay {H H':Hp} (s:Same H H'):Stay H H':=fun z o e _=>s z o e
theorem nr_tup {xs:List V}:NR (.tup xs):=fun _ z=>by cases z
theorem nr_ins {C dx:Addr} {fs:List (Str×V)}:NR (.ins C dx fs):=fun _ z=>by cases z
theorem nr_dK {kvs:List (Key×V)}:NR (.dK kvs):=fun _ z=>by cases z
theorem nr_mem {xs:List V} {i:Int} (h:V.int i∈xs):NR (.lst xs):=fun ys z r=>by
  cases z
  obtain ⟨a,e⟩:=r _ h
  cases e
theorem nr_nat {ps:List Nat} (h:1≤ps.length):NR (.lst (natV ps)):=by
  cases ps with
  | nil=>simp at h
  | cons p q=>exact nr_mem (i:=(p:Int)) (by simp [natV])
theorem nr_int {ws:List Int} (h:1≤ws.length):NR (.lst (ws.map V.int)):=by
  cases ws with
  | nil=>simp at h
  | cons p q=>exact nr_mem (i:=p) (by simp)
theorem FrAt.stay {H H':Hp} {f a c:Addr} {b:Nat} {ps:List Nat} {ws:List Int} (G:FrAt H f a c b ps ws) (s:Stay H H'):FrAt H' f a c b ps ws :=
  ⟨s _ _ G.tp nr_tup,s _ _ G.hp (nr_nat (by have:=G.ok.l2;lia)),s _ _ G.hw (nr_int (by have:=G.ok.wl;have:=G.ok.sum;lia)),G.ok⟩
theorem Store.stay {H H':Hp} {st:Addr} (S:Store H st) (s:Stay H H'):Store H' st:=let ⟨g,c,k,e⟩:=S;⟨g,c,k,s _ _ e (nr_mem (i:=g) (by simp))⟩
theorem Store.ne {H:Hp} {st y:Addr} {o:HO} (S:Store H st) (h:H y=some o) (n:∀ g c k:Int,o≠.lst [.int g,.int c,.int k]):y≠st:=fun z=>by
  obtain ⟨g,c,k,e⟩:=S
  rw [z,e] at h
  exact n g c k (Option.some.inj h).symm
noncomputable def DT (H:Hp) (x:V):Prop:=x=.non∨(∃ t,x=.bl t)∨(∃ i,x=.int i)∨(∃ s,x=.str s)∨∃ a,x=.ref a∧(H a=some (.lst [.int 1])∨H a=some (.tup [.int 1])∨H a=some (.dK []))
theorem DT.stay {H H':Hp} {x:V} (d:DT H x) (s:Stay H H'):DT H' x:=by
  rcases d with h | h | h | h | ⟨a,e,h⟩
  · exact .inl h
  · exact .inr (.inl h)
  · exact .inr (.inr (.inl h))
  · exact .inr (.inr (.inr (.inl h)))
  · refine .inr (.inr (.inr (.inr ⟨a,e,?_⟩)))
    rcases h with h | h | h
    · exact .inl (s _ _ h (nr_mem (i:=1) (by simp)))
    · exact .inr (.inl (s _ _ h nr_tup))
    · exact .inr (.inr (s _ _ h nr_dK))
theorem DT.kst {H H':Hp} {x:V} {st:Addr} (d:DT H x) (S:Store H st) (k:Kp [st] H H'):DT H' x:=by
  rcases d with h | h | h | h | ⟨a,e,h⟩
  · exact .inl h
  · exact .inr (.inl h)
  · exact .inr (.inr (.inl h))
  · exact .inr (.inr (.inr (.inl h)))
  · refine .inr (.inr (.inr (.inr ⟨a,e,?_⟩)))
    rcases h with h | h | h
    · exact .inl (k _ _ h (by simpa using S.ne h (by intro _ _ _ z;cases z)))
    · exact .inr (.inl (k _ _ h (by simpa using S.ne h (by intro _ _ _ z;cases z))))
    · exact .inr (.inr (k _ _ h (by simpa using S.ne h (by intro _ _ _ z;cases z))))
theorem DT.keep {H H':Hp} {x:V} (d:DT H x) (s:Same H H'):DT H' x:=d.stay (same_stay s)
theorem DT.thing {H:Hp} {x:V} (d:DT H x):Thing H x:=by
  rcases d with rfl | ⟨t,rfl⟩ | ⟨i,rfl⟩ | ⟨s,rfl⟩ | ⟨a,rfl,h⟩
  · exact .non
  · exact .bl t
  · exact .int i
  · exact .str s
  · rcases h with h | h | h
    · exact .lst h
    · exact .tup h
    · exact .dK h
noncomputable def Deed (H:Hp) (dv:V) (d:Option (V×V)):Prop:=(dv=.non∧d=none)∨∃ t pl wt,dv=.ref t∧d=some (pl,wt)∧H t=some (.tup [pl,wt])∧DT H pl∧DT H wt
theorem Deed.stay {H H':Hp} {dv:V} {d:Option (V×V)} (D:Deed H dv d) (s:Stay H H'):Deed H' dv d:=by
  rcases D with h | ⟨t,pl,wt,e1,e2,h,d1,d2⟩
  · exact .inl h
  · exact .inr ⟨t,pl,wt,e1,e2,s _ _ h nr_tup,d1.stay s,d2.stay s⟩
theorem Deed.keep {H H':Hp} {dv:V} {d:Option (V×V)} (D:Deed H dv d) (s:Same H H'):Deed H' dv d:=D.stay (same_stay s)
structure StA (H:Hp) (s f a c e:Addr) (ks:List Addr) (b:Nat) (ps:List Nat) (ws:List Int) (hist:List (Nat×Int)):Prop where
  hs:H s=some (.tup [.ref f,.ref e])
  fr:FrAt H f a c b ps ws
  he:H e=some (.lst (ks.map V.ref))
  hl:ks.length=hist.length
  hk:∀ (i:Nat) (k:Addr) (h:Nat×Int),ks[i]?=some k→hist[i]?=some h→H k=some (.tup [.int h.1,.int h.2])
theorem StA.keep {H H':Hp} {s f a c e:Addr} {ks:List Addr} {b:Nat} {ps:List Nat} {ws:List Int} {hist:List (Nat×Int)} (S:StA H s f a c e ks b ps ws hist) (t:Same H H'):StA H' s f a c e ks b ps ws hist :=
  ⟨t _ _ S.hs,S.fr.keep t,t _ _ S.he,S.hl,fun i k h h1 h2=>t _ _ (S.hk i k h h1 h2)⟩
noncomputable def spDeed:Sp:=fun vs H Q _=>∃ (st s f a c e:Addr) (ks:List Addr) (b:Nat) (ps:List Nat) (ws:List Int) (hist:List (Nat×Int)),vs=[.ref st,.ref s]∧Store H st∧StA H s f a c e ks b ps ws hist∧a≠st∧c≠st∧∀ (dv:V) (d:Option (V×V)) (H':Hp),Store H' st→Kp [st] H H'→Deed H' dv d→Q dv H'
noncomputable def DueW (ws:List Int) (hist:List (Nat×Int)) (d:Option (V×V)) (wd:Str):Prop:=(d=none∧hist=[]∧wd="number")∨∃ pl wt,d=some (pl,wt)∧((betw pl 0 ((ws.length:Int) - 1)=false∧wd="part")∨(betw pl 0 ((ws.length:Int) - 1)=true∧betw wt (-9) 9=false∧wd="number"))
noncomputable def DueS (ws:List Int) (hist:List (Nat×Int)) (d:Option (V×V)) (ws':List Int) (hist':List (Nat×Int)):Prop:=(∃ h0 p x,d=none∧hist=h0++[(p,x)]∧hist'=h0∧ws'=ws.set p x)∨∃ (p:Nat) (x y:Int),d=some (.int p,.int x)∧p<ws.length∧-9≤x∧x≤9∧ws[p]?=some y∧ws'=ws.set p x∧hist'=hist++[(p,y)]
noncomputable def HistR (n:Nat) (hist:List (Nat×Int)):Prop:=∀ h∈hist,h.1<n∧-9≤h.2∧h.2≤9
noncomputable def spDue:Sp:=fun vs H Q _=>∃ (s f a c e:Addr) (ks:List Addr) (b:Nat) (ps:List Nat) (ws:List Int) (hist:List (Nat×Int)) (dv:V) (d:Option (V×V)),vs=[.ref s,dv]∧StA H s f a c e ks b ps ws hist∧HistR ws.length hist∧hist.length≤1000∧Deed H dv d∧
  (∀ (wd:Str) (H':Hp),Same H H'→DueW ws hist d wd→Q (.str wd) H')∧
  (∀ (s' f' c' e':Addr) (ks':List Addr) (ws':List Int) (hist':List (Nat×Int)) (H':Hp),Same H H'→DueS ws hist d ws' hist'→StA H' s' f' a c' e' ks' b ps ws' hist'→H c'=none→HistR ws'.length hist'→Q (.ref s') H')
theorem ok_set {b:Nat} {ps:List Nat} {ws:List Int} {p:Nat} {x:Int} (ok:FrOk b ps ws) (h1 : -9≤x) (h2:x≤9):FrOk b ps (ws.set p x) :=
  ⟨ok.b2,ok.b16,ok.l2,ok.l4,ok.pr,by rw [List.length_set];exact ok.wl,fun v hv=>by
    rcases List.mem_or_eq_of_mem_set hv with h | h
    · exact ok.wr v h
    · subst h;exact ⟨h1,h2⟩⟩
theorem snoc_get {α:Type} {l:List α} {x y:α} {i:Nat} (h:(l++[x])[i]?=some y):(i<l.length∧l[i]?=some y)∨(i=l.length∧y=x):=by
  by_cases hi:i<l.length
  · rw [List.getElem?_append_left hi] at h;exact .inl ⟨hi,h⟩
  · have hl:=(List.getElem?_eq_some_iff.mp h).1
    rw [List.length_append,List.length_singleton] at hl
    have e:i=l.length:=by lia
    subst e
    rw [List.getElem?_append_right (Nat.le_refl _)] at h
    simp at h
    exact .inr ⟨rfl,h.symm⟩
theorem one_last {α:Type} {l:List α} (h:1≤l.length):∃ ini x,l=ini++[x]:=by
  have h1:l≠[]:=fun z=>by rw [z] at h;simp at h
  exact ⟨l.dropLast,l.getLast h1,(List.dropLast_concat_getLast h1).symm⟩
theorem last_refs {ts:List Addr} {t:Addr}:atI ((ts++[t]).map V.ref) (-1)=some (V.ref t):=by rw [List.map_append];exact atI_last _ _
theorem cut_last (xs:List V) (x:V):cutV (xs++[x]) none (some (-1))=xs:=by
  unfold cutV
  have h1:HT.sIx (xs++[x]).length 0 none=0:=rfl
  have h2:HT.sIx (xs++[x]).length (xs++[x]).length (some (-1))=xs.length:=by
    show (if (-1:Int)<0 then (-1+((xs++[x]).length:Int)).toNat else min (-1:Int).toNat (xs++[x]).length)=xs.length
    rw [if_pos (by decide),List.length_append,List.length_singleton]
    lia
  rw [h1,h2]
  simp
section
variable {P:Program} {w:World} {K:PySem.W.Frag} {mg:Str→Option Value} {base:Heap} {C:Addr}
theorem scLawIsFrom:FnScope ["thing","low","high"] ["thing","low","high"] (defScope sLawIsFrom):=⟨rfl,rfl,rfl,by decide +kernel,rfl,by decide +kernel,by decide +kernel⟩
theorem ok_isfrom {f:Addr} {fd:FuncData} (F:Fun K "_law_is_from" "_law_is_from" sLawIsFrom f fd) (T:Txt mg):FnOk P w K mg base CX0 1 f fd ["thing","low","high"] spBetw:=by
  refine F.ok scLawIsFrom (fun vs H Q E h=>?_) (fun cdv A outer s H vs Q E hr h=>?_)
  · obtain ⟨x,lo,hi,rfl,_⟩:=h;rfl
  · obtain ⟨x,lo,hi,rfl,ty,k⟩:=h
    have nd:=scLawIsFrom.nd
    refine ⟨_,(pss_one (ps_ret (pe_and (pe_callB call_isi (by rfl) T.isi boot_isinstance (pa_cons (pv 0) (pa_cons (pe_ty T.int boot_int) pa_nil))) (pe_and (pe_not (pe_callB call_isi (by rfl) T.isi boot_isinstance (pa_cons (pv 0) (pa_cons (pe_ty T.bool boot_bool) pa_nil)))) (pe_one (pe_chain op_le op_le (pv 1) (pv 0) (pv 2))))))),?_⟩
    cases ty with
    | non=>exact ⟨_,rfl,_,_,_,_,rfl,.non,kit_ni,false,rfl,iteF k⟩
    | bl t=>exact ⟨_,rfl,_,_,_,_,rfl,.bl t,kit_bi,true,rfl,iteT ⟨_,rfl,_,_,_,_,rfl,.bl t,kit_bb,true,rfl,_,rfl,iteF k⟩⟩
    | str t=>exact ⟨_,rfl,_,_,_,_,rfl,.str t,kit_si,false,rfl,iteF k⟩
    | lst e=>exact ⟨_,rfl,_,_,_,_,rfl,.lst e,kit_li,false,rfl,iteF k⟩
    | tup e=>exact ⟨_,rfl,_,_,_,_,rfl,.tup e,kit_ti,false,rfl,iteF k⟩
    | dK e=>exact ⟨_,rfl,_,_,_,_,rfl,.dK e,kit_di,false,rfl,iteF k⟩
    | int i =>
      refine ⟨_,rfl,_,_,_,_,rfl,.int i,kit_ii,true,rfl,iteT ⟨_,rfl,_,_,_,_,rfl,.int i,kit_ib,false,rfl,_,rfl,iteT ?_⟩⟩
      refine ⟨_,rfl,_,rfl,_,_,rfl,rfl,_,rfl,?_⟩
      by_cases h1:lo≤i
      · rw [decide_eq_true h1]
        refine iteT ⟨_,rfl,_,_,rfl,rfl,?_⟩
        have e:betw (.int i) lo hi=decide (i≤hi):=by simp [betw,h1]
        rw [e] at k
        exact k
      · rw [decide_eq_false h1]
        have e:betw (.int i) lo hi=false:=by simp [betw,h1]
        rw [e] at k
        exact iteF k
theorem scDue:FnScope ["state","deed","frame","early","weights","place","weight","kept"] ["state","deed"] (defScope sDue):=⟨rfl,rfl,rfl,by decide +kernel,rfl,by decide +kernel,by decide +kernel⟩
theorem ok_due {f:Addr} {fd:FuncData} (F:Fun K "_law_due" "_law_due" sDue f fd) (T:Txt mg) (d_law_is_from:Def P w K mg base 1 "_law_is_from" ["thing","low","high"] spBetw):FnOk P w K mg base CX0 2 f fd ["state","deed"] spDue:=by
  refine F.ok scDue (fun vs H Q E h=>?_) (fun cdv A outer s H vs Q E hr h=>?_)
  · obtain ⟨s,f,a,c,e,ks,b,ps,ws,hist,dv,d,rfl,_⟩:=h;rfl
  · obtain ⟨s,f,a,c,e,ks,b,ps,ws,hist,dv,d,rfl,S,hr0,hl0,D,kw,ks0⟩:=h
    have nd:=scDue.nd
    refine ⟨_,(pss_cons (ps_asg (pv 0) (pg_tup rfl (pgs_cons (pg_name (i:=2) nd rfl (Or.inl rfl)) (pgs_cons (pg_name (i:=3) nd rfl (Or.inl rfl)) pgs_nil))))
      (pss_cons (ps_set (i:=4) nd rfl (Or.inl rfl) (pe_callTy call_list_of (by rfl) T.list boot_list (pa_cons (ixt (pv 2) pe_int) pa_nil)))
      (pss_cons (ps_if (pt_cmpR op_isN (pv 1) pe_non (nomark _)) (pss_cons (ps_if (pt_cmpR (op_eqDP P w rfl rfl hr.units) (pv 3) (pe_lst pa_nil) (nomark _)) (pss_one (ps_ret pe_str)) pss_nil)
        (pss_cons (ps_asg (ixl (pv 3) (pe_un un_neg pe_int)) (pg_tup rfl (pgs_cons (pg_name (i:=5) nd rfl (Or.inl rfl)) (pgs_cons (pg_name (i:=6) nd rfl (Or.inl rfl)) pgs_nil))))
        (pss_cons (ps_asg (pv 6) (pg_sub (pv 4) (pv 5) set_list))
        (pss_one (ps_ret (pe_tup (pa_cons (pe_tup (pa_cons (ixt (pv 2) pe_int) (pa_cons (ixt (pv 2) pe_int) (pa_cons (pv 4) pa_nil)))) (pa_cons (pe_slice sl_list (pv 3) po_none (po_some (pe_un un_neg pe_int))) pa_nil)))))))) pss_nil)
      (pss_cons (ps_asg (pv 1) (pg_tup rfl (pgs_cons (pg_name (i:=5) nd rfl (Or.inl rfl)) (pgs_cons (pg_name (i:=6) nd rfl (Or.inl rfl)) pgs_nil))))
      (pss_cons (ps_if (pt_not (pt_val (pe_fn d_law_is_from hr (by rfl) (pa_cons (pv 5) (pa_cons pe_int (pa_cons (pe_op op_sub (lenS T.len (by rfl) (pv 4)) pe_int) pa_nil)))))) (pss_one (ps_ret pe_str)) pss_nil)
      (pss_cons (ps_if (pt_not (pt_val (pe_fn d_law_is_from hr (by rfl) (pa_cons (pv 6) (pa_cons (pe_un un_neg pe_int) (pa_cons pe_int pa_nil)))))) (pss_one (ps_ret pe_str)) pss_nil)
      (pss_cons (ps_set (i:=7) nd rfl (Or.inl rfl) (pe_tup (pa_cons (pv 5) (pa_cons (ixl (pv 4) (pv 5)) pa_nil))))
      (pss_cons (ps_asg (pv 6) (pg_sub (pv 4) (pv 5) set_list))
      (pss_one (ps_ret (pe_tup (pa_cons (pe_tup (pa_cons (ixt (pv 2) pe_int) (pa_cons (ixt (pv 2) pe_int) (pa_cons (pv 4) pa_nil)))) (pa_cons (pe_op op_cat (pv 3) (pe_lst (pa_cons (pv 7) pa_nil))) pa_nil))))))))))))),?_⟩
    have ok:=S.fr.ok
    have hwl:=ok.wl
    have hsm:=ok.sum
    refine ⟨_,rfl,s,_,rfl,SqT.of S.hs,rfl,_,_,rfl,_,_,rfl,rfl,?_⟩
    refine ⟨_,rfl,_,_,_,_,rfl,rfl,SqT.of S.fr.tp,rfl,⟨c,_,rfl,.inl (SqL.of S.fr.hw),fun wl hwl'=>?_⟩⟩
    have s1:=same_upd (o:=.lst (ws.map V.int)) hwl'
    have u1:(upd H wl (.lst (ws.map V.int))) wl=_:=upd_same
    have S1:=S.keep s1
    have n1:∀ {y:Addr} {o:HO},H y=some o→y≠wl:=fun h z=>by rw [z,hwl'] at h;cases h
    have mv:∀ {o':HO},Same H (upd (upd H wl (.lst (ws.map V.int))) wl o'):=fun {o'} y o h=>by rw [upd_ne (n1 h),upd_ne (n1 h)];exact h
    rcases D with ⟨rfl,rfl⟩ | ⟨t,pl,wt,rfl,rfl,ht,d1,d2⟩
    · refine ⟨_,rfl,rfl,_,rfl,iteT ?_⟩
      rcases Nat.eq_zero_or_pos hist.length with h0 | h0
      · have eh:hist=[]:=List.eq_nil_of_length_eq_zero h0
        have ek:ks=[]:=List.eq_nil_of_length_eq_zero (by rw [S.hl];exact h0)
        subst ek
        refine ⟨_,rfl,sz (by simp),fun l hl=>?_⟩
        have s2:=same_upd (o:=.lst []) hl
        refine L2.eq_self (datL (s2 _ _ S1.he) .nil) (datL upd_same .nil) rfl (by simp [PyData.depth,PyData.depthAll]) ⟨_,rfl,iteT ?_⟩
        exact kw _ _ (s1.trans s2) (.inl ⟨rfl,eh,rfl⟩)
      · obtain ⟨h0',⟨p,x⟩,rfl⟩:=one_last (l:=hist) h0
        obtain ⟨kj,kz,rfl⟩:=one_last (l:=ks) (by rw [S.hl];exact h0)
        have hlk:kj.length=h0'.length:=by have:=S.hl;simp at this;exact this
        have hkz:=S1.hk kj.length kz (p,x) (by simp) (by rw [hlk];simp)
        have hpx:=hr0 (p,x) (by simp)
        refine ⟨_,rfl,sz (by simp),fun l hl=>?_⟩
        have s2:=same_upd (o:=.lst []) hl
        have hdt:∃ de,Paired (DatV P w (upd (upd H wl (.lst (ws.map V.int))) l (.lst []))) ((kj++[kz]).map V.ref) de∧de≠[]∧PyData.canLayAll0 de=true∧PyData.depthAll de≤1:=by
          have gen:∀ (kk:List Addr) (hh:List (Nat×Int)),kk.length=hh.length→(∀ (i:Nat) (k:Addr) (h:Nat×Int),kk[i]?=some k→hh[i]?=some h→(upd (upd H wl (.lst (ws.map V.int))) l (.lst [])) k=some (.tup [.int h.1,.int h.2]))→∃ de,Paired (DatV P w (upd (upd H wl (.lst (ws.map V.int))) l (.lst []))) (kk.map V.ref) de∧de.length=kk.length∧PyData.canLayAll0 de=true∧PyData.depthAll de≤1:=by
            intro kk
            induction kk with
            | nil=>intro hh _ _;exact ⟨[],.nil,rfl,rfl,Nat.zero_le _⟩
            | cons k0 kr ih =>
              intro hh hl' h
              cases hh with
              | nil=>simp at hl'
              | cons g0 gr =>
                obtain ⟨de,q1,q2,q3,q4⟩:=ih gr (by simpa using hl') (fun i k h' e1 e2=>h (i+1) k h' (by simpa using e1) (by simpa using e2))
                have e0:=h 0 k0 g0 rfl rfl
                refine ⟨.tuple [.int g0.1,.int g0.2]::de,.cons (datT e0 (.cons (datI _) (.cons (datI _) .nil))) q1,by simp [q2],?_,?_⟩
                · simp [PyData.canLayAll0,PyData.canLay0,q3]
                · simp only [PyData.depthAll,PyData.depth];lia
          obtain ⟨de,q1,q2,q3,q4⟩:=gen (kj++[kz]) (h0'++[(p,x)]) (by simp [hlk]) (fun i k h e1 e2=>s2 _ _ (S1.hk i k h e1 e2))
          exact ⟨de,q1,fun z=>by rw [z] at q2;simp at q2,q3,q4⟩
        obtain ⟨de,q1,q2,q3,q4⟩:=hdt
        refine ⟨.list de,.list [],datL (s2 _ _ S1.he) q1,datL upd_same .nil,⟨by simpa [PyData.canLay0] using q3,rfl,by simp only [PyData.depth];lia⟩,?_⟩
        have eq0:PyData.eqv (.list de) (.list [])=false:=by
          cases de with
          | nil=>exact absurd rfl q2
          | cons x y=>simp [PyData.eqv,PyData.eqvAll]
        rw [if_neg (by decide),eq0]
        refine ⟨_,rfl,iteF ?_⟩
        have S2:=S1.keep s2
        have u2:=s2 _ _ u1
        have nl1:∀ {y:Addr} {o:HO},H y=some o→y≠l:=fun h z=>by rw [z] at h;rw [s1 _ _ h] at hl;cases hl
        have nwl:wl≠l:=fun z=>by rw [← z,u1] at hl;cases hl
        generalize upd (upd H wl (.lst (ws.map V.int))) l (.lst [])=H2 at S2 u2 s2 q1⊢
        have T2:=s1.trans s2
        have hkz2:=s2 _ _ hkz
        refine ⟨_,rfl,_,rfl,r_ixl S2.he last_refs ⟨kz,_,rfl,SqT.of hkz2,rfl,_,_,rfl,_,_,rfl,rfl,?_⟩⟩
        refine ⟨_,rfl,_,rfl,_,rfl,wl,_,_,p,rfl,rfl,u2,by rw [List.length_map];exact ixN_nat hpx.1,?_⟩
        have e3:(ws.map V.int).set p (V.int x)=(ws.set p x).map V.int:=by rw [List.map_set]
        rw [e3]
        have s3:Same H (upd H2 wl (.lst ((ws.set p x).map V.int))):=fun y o h=>by rw [upd_ne (n1 h)];exact T2 _ _ h
        have u3:(upd H2 wl (.lst ((ws.set p x).map V.int))) wl=_:=upd_same
        generalize upd H2 wl (.lst ((ws.set p x).map V.int))=H3 at s3 u3⊢
        have S3:=S.keep s3
        refine ⟨_,rfl,_,_,_,_,rfl,rfl,SqT.of S3.fr.tp,rfl,_,rfl,_,_,_,_,rfl,rfl,SqT.of S3.fr.tp,rfl,_,rfl,sz (by simp),fun ft hft=>?_⟩
        have s4:=same_upd (o:=.tup [.int b,.ref a,.ref wl]) hft
        have u4:(upd H3 ft (.tup [.int b,.ref a,.ref wl])) ft=_:=upd_same
        generalize upd H3 ft (.tup [.int b,.ref a,.ref wl])=H4 at s4 u4⊢
        have S4:=S3.keep s4
        refine ⟨_,rfl,_,rfl,_,rfl,e,_,rfl,SqL.of S4.he,fun el hel=>⟨sz (by simp),fun st' hst'=>?_⟩⟩
        have ecut:cutV ((kj++[kz]).map V.ref) none (some (-1))=kj.map V.ref:=by
          rw [List.map_append]
          exact cut_last _ _
        rw [ecut] at hst'⊢
        have s5:=same_upd (o:=.lst (kj.map V.ref)) hel
        have u5:(upd H4 el (.lst (kj.map V.ref))) el=_:=upd_same
        generalize upd H4 el (.lst (kj.map V.ref))=H5 at s5 u5 hst'⊢
        have s6:=same_upd (o:=.tup [.ref ft,.ref el]) hst'
        have T6:=((s3.trans s4).trans s5).trans s6
        refine ks0 _ ft wl el kj (ws.set p x) h0' _ T6 (.inl ⟨h0',p,x,rfl,rfl,rfl,rfl⟩) ⟨upd_same,⟨s6 _ _ (s5 _ _ u4),T6 _ _ S.fr.hp,s6 _ _ (s5 _ _ (s4 _ _ u3)),ok_set ok hpx.2.1 hpx.2.2⟩,s6 _ _ u5,hlk,fun i k h e1 e2=>?_⟩ hwl' (fun h hh=>by rw [List.length_set];exact hr0 h (List.mem_append_left _ hh))
        refine T6 _ _ (S.hk i k h ?_ ?_)
        · rw [List.getElem?_append_left (List.getElem?_eq_some_iff.mp e1).1];exact e1
        · rw [List.getElem?_append_left (List.getElem?_eq_some_iff.mp e2).1];exact e2
    · have ht1:=s1 _ _ ht
      have d1':=d1.keep s1
      have d2':=d2.keep s1
      have S1':=S1
      generalize upd H wl (.lst (ws.map V.int))=H1 at s1 u1 S1 ht1 d1' d2'⊢
      refine ⟨_,rfl,rfl,_,rfl,iteF ?_⟩
      refine ⟨_,rfl,t,_,rfl,SqT.of ht1,rfl,_,_,rfl,_,_,rfl,rfl,?_⟩
      refine ⟨_,rfl,_,rfl,wl,_,rfl,.inl (SqL.of u1),_,_,rfl,rfl,pl,0,_,rfl,d1'.thing,_,rfl,?_⟩
      rw [List.length_map]
      cases e1:betw pl 0 ((ws.length:Int) - 1) with
      | false=>exact iteT (kw _ _ s1 (.inr ⟨pl,wt,rfl,.inl ⟨e1,rfl⟩⟩))
      | true =>
        refine iteF ⟨_,rfl,_,rfl,wt,-9,9,rfl,d2'.thing,_,rfl,?_⟩
        cases e2:betw wt (-9) 9 with
        | false=>exact iteT (kw _ _ s1 (.inr ⟨pl,wt,rfl,.inr ⟨e1,e2,rfl⟩⟩))
        | true =>
          obtain ⟨p,rfl,hp⟩:∃ p:Nat,pl=.int p∧p<ws.length:=by
            cases pl with
            | int i =>
              simp only [betw,Bool.and_eq_true,decide_eq_true_eq] at e1
              exact ⟨i.toNat,by rw [Int.toNat_of_nonneg e1.1],by lia⟩
            | _=>cases e1
          obtain ⟨x,rfl,hx1,hx2⟩:∃ x:Int,wt=.int x∧-9≤x∧x≤9:=by
            cases wt with
            | int i =>
              simp only [betw,Bool.and_eq_true,decide_eq_true_eq] at e2
              exact ⟨i,rfl,e2.1,e2.2⟩
            | _=>cases e2
          obtain ⟨y,hy⟩:∃ y,ws[p]?=some y:=⟨_,List.getElem?_eq_getElem hp⟩
          have hyr:=ok.wr y (List.mem_of_getElem? hy)
          have ey:atI (ws.map V.int) (p:Int)=some (V.int y):=atI_nat (by rw [List.getElem?_map,hy];rfl)
          refine iteF ⟨_,rfl,_,rfl,_,rfl,_,_,_,_,rfl,rfl,SqL.of u1,ey,sz (by simp),fun kt hkt=>?_⟩
          have s2:=same_upd (o:=.tup [.int (p:Int),.int y]) hkt
          have u2:(upd H1 kt (.tup [.int (p:Int),.int y])) kt=_:=upd_same
          have v2:=s2 _ _ u1
          have nkw:kt≠wl:=fun z=>by rw [z,u1] at hkt;cases hkt
          generalize upd H1 kt (.tup [.int (p:Int),.int y])=H2 at s2 u2 v2⊢
          refine ⟨_,rfl,_,rfl,_,rfl,wl,_,_,p,rfl,rfl,v2,by rw [List.length_map];exact ixN_nat hp,?_⟩
          have e3:(ws.map V.int).set p (V.int x)=(ws.set p x).map V.int:=by rw [List.map_set]
          rw [e3]
          have T2:=s1.trans s2
          have s3:Same H (upd H2 wl (.lst ((ws.set p x).map V.int))):=fun y o h=>by rw [upd_ne (n1 h)];exact T2 _ _ h
          have u3:(upd H2 wl (.lst ((ws.set p x).map V.int))) wl=_:=upd_same
          have w3:(upd H2 wl (.lst ((ws.set p x).map V.int))) kt=some (.tup [.int (p:Int),.int y]):=by rw [upd_ne nkw];exact u2
          generalize upd H2 wl (.lst ((ws.set p x).map V.int))=H3 at s3 u3 w3⊢
          have S3:=S.keep s3
          refine ⟨_,rfl,_,_,_,_,rfl,rfl,SqT.of S3.fr.tp,rfl,_,rfl,_,_,_,_,rfl,rfl,SqT.of S3.fr.tp,rfl,_,rfl,sz (by simp),fun ft hft=>?_⟩
          have s4:=same_upd (o:=.tup [.int b,.ref a,.ref wl]) hft
          have u4:(upd H3 ft (.tup [.int b,.ref a,.ref wl])) ft=_:=upd_same
          generalize upd H3 ft (.tup [.int b,.ref a,.ref wl])=H4 at s4 u4⊢
          have S4:=S3.keep s4
          refine ⟨_,rfl,_,rfl,sz (by simp),fun k1 hk1=>?_⟩
          have s5:=same_upd (o:=.lst [V.ref kt]) hk1
          have u5:(upd H4 k1 (.lst [V.ref kt])) k1=_:=upd_same
          generalize upd H4 k1 (.lst [V.ref kt])=H5 at s5 u5⊢
          have S5:=S4.keep s5
          have hll:=S.hl
          refine ⟨e,k1,_,_,rfl,rfl,S5.he,u5,sz (by simp;lia),fun el hel=>⟨sz (by simp),fun st' hst'=>?_⟩⟩
          have s6:=same_upd (o:=.lst (ks.map V.ref++[V.ref kt])) hel
          have u6:(upd H5 el (.lst (ks.map V.ref++[V.ref kt]))) el=some (.lst ((ks++[kt]).map V.ref)):=by rw [upd_same,List.map_append];rfl
          generalize upd H5 el (.lst (ks.map V.ref++[V.ref kt]))=H6 at s6 u6 hst'⊢
          have s7:=same_upd (o:=.tup [.ref ft,.ref el]) hst'
          have T7:=((((s3.trans s4).trans s5).trans s6)).trans s7
          have t47:=((s4.trans s5).trans s6).trans s7
          refine ks0 _ ft wl el (ks++[kt]) (ws.set p x) (hist++[(p,y)]) _ T7 (.inr ⟨p,x,y,rfl,hp,hx1,hx2,hy,rfl,rfl⟩) ⟨upd_same,⟨((s5.trans s6).trans s7) _ _ u4,T7 _ _ S.fr.hp,t47 _ _ u3,ok_set ok hx1 hx2⟩,s7 _ _ u6,by simp [hll],fun i k h e1 e2=>?_⟩ hwl' (fun h hh=>?_)
          · rcases snoc_get e1 with ⟨hi,e1⟩ | ⟨rfl,rfl⟩
            · rw [List.getElem?_append_left (by lia)] at e2
              exact T7 _ _ (S.hk i k h e1 e2)
            · rw [hll,List.getElem?_append_right (Nat.le_refl _)] at e2
              simp at e2
              subst e2
              exact t47 _ _ w3
          · rw [List.length_set]
            rcases List.mem_append.mp hh with h1 | h1
            · exact hr0 h h1
            · rw [List.mem_singleton.mp h1];exact ⟨hp,hyr.1,hyr.2⟩
end
end Hv
namespace Hv
open PySem L2
theorem boot_str':bootBuiltins "str"=some (.type "str"):=PyProof.Rows.boot_str
theorem kit_tS {K:PySem.W.Frag}:PySem.W.kitOne K (.type "tuple") (.type "str")=some false:=by kernel_rfl
theorem kit_sS {K:PySem.W.Frag}:PySem.W.kitOne K (.type "str") (.type "str")=some true:=by kernel_rfl
theorem dt_off {H:Hp} {x:V} {st:Addr} (d:DT H x) (S:Store H st):DT (Off [st] H) x:=by
  rcases d with h | h | h | h | ⟨a,e,h⟩
  · exact .inl h
  · exact .inr (.inl h)
  · exact .inr (.inr (.inl h))
  · exact .inr (.inr (.inr (.inl h)))
  · refine .inr (.inr (.inr (.inr ⟨a,e,?_⟩)))
    rcases h with h | h | h
    · exact .inl (off_at h (by simpa using S.ne h (by intro _ _ _ z;cases z)))
    · exact .inr (.inl (off_at h (by simpa using S.ne h (by intro _ _ _ z;cases z))))
    · exact .inr (.inr (off_at h (by simpa using S.ne h (by intro _ _ _ z;cases z))))
theorem dt_int {H:Hp} {i:Int}:DT H (.int i):=.inr (.inr (.inl ⟨i,rfl⟩))
noncomputable def asgVal:Stmt→Expr
  | .Assign _ e _=>e
  | .Return (some e) _=>e
  | _=>.Constant .none 0 ⟨0,0,0,0⟩
theorem weakSs {X:Cx} {rest:List Stmt} {t t':TS} (h:PSs X rest t) (w:∀ D σ H,t' D σ H→t D σ H):PSs X rest t':=fun pins s σ H D I q=>h pins s σ H D I (w D σ H q)
noncomputable def dtP (D:List Addr):PP D:=⟨fun H v=>DT (Off D H) v,fun _ _ _ k h=>h.keep (off_kp k)⟩
section
variable {X:Cx} {d:Addr} {ps:List (Option (PP [d]))} {e a b:Expr} {es:List Expr} {pos:Pos}
theorem e_blD {t:Bool} {j:_}:ET X d ps (.Constant (.bool t) j pos) (dtP _):=e_val pe_bl fun _=>.inr (.inl ⟨_,rfl⟩)
theorem e_nonD {j:_}:ET X d ps (.Constant .none j pos) (dtP _):=e_val pe_non fun _=>.inl rfl
theorem e_strD {x:Str} {j:_}:ET X d ps (.Constant (.str x) j pos) (dtP _):=e_val pe_str fun _=>.inr (.inr (.inr (.inl ⟨_,rfl⟩)))
theorem in_dt {lo hi:Int}:Le (D:=[d]) (inP _ lo hi) (dtP _):=fun H v ⟨i,e,_,_⟩=>.inr (.inr (.inl ⟨i,e⟩))
theorem e_empD:ET X d ps (.Dict [] [] pos) (dtP _):=weakT pe_dnewK fun σ H Q c k q=>fun z hz'=>q _ _ (k.keep (same_upd hz')) (Kp.of (same_upd hz')) (.inr (.inr (.inr (.inr ⟨z,rfl,.inr (.inr (off_at upd_same (k.off1 hz')))⟩))))
theorem e_lst1D {j:_} {q1:Pos}:ET X d ps (.List [.Constant (.int 1) j q1] pos) (dtP _):=weakT (pe_lst (pa_cons pe_int pa_nil)) fun σ H Q c k q=>⟨sz (by decide),fun z hz'=>q _ _ (k.keep (same_upd hz')) (Kp.of (same_upd hz')) (.inr (.inr (.inr (.inr ⟨z,rfl,.inl (off_at upd_same (k.off1 hz'))⟩))))⟩
theorem e_tup1D {j x1:_} {q1:Pos}:ET X d ps (.Tuple [.Constant (.int 1) j q1] x1 pos) (dtP _):=weakT (pe_tup (pa_cons pe_int pa_nil)) fun σ H Q c k q=>⟨sz (by decide),fun z hz'=>q _ _ (k.keep (same_upd hz')) (Kp.of (same_upd hz')) (.inr (.inr (.inr (.inr ⟨z,rfl,.inr (.inl (off_at upd_same (k.off1 hz')))⟩))))⟩
theorem pe_some {pp:(d:Addr)→List (Option (PP [d]))} {R:(d:Addr)→PP [d]} (h:∀ d,ET X d (pp d) e (R d)):PE X e (fun σ H Q=>∃ d,tT d (pp d) (R d) σ H Q):=fun pins s σ H Q I ⟨d,q⟩=>h d pins s σ H Q I q
end
noncomputable abbrev namD:List Str:=["store","state","frame","early","size","way","place","weight","odd"]
noncomputable abbrev XD (P:Program) (w:World) (K:PySem.W.Frag) (mg:Str→Option Value) (base:Heap) (f:Addr) (cdv:Value) (A:Around) (outer:List Env) (s:Shared) (H:Hp) (E:XK):Cx:=Cx.nox (cxOf CX0 P w K mg base namD "_law_deed" (defScope sLawDeed) f cdv A outer s H E)
noncomputable abbrev stD (i:Nat):Stmt:=(defBody sLawDeed).getD i (.Pass ⟨0,0,0,0⟩)
noncomputable def ifBody:Stmt→List Stmt
  | .If _ b _ _=>b
  | _=>[]
noncomputable abbrev stI (i:Nat):Stmt:=(ifBody (stD i)).getD 0 (.Pass ⟨0,0,0,0⟩)
section
variable {P:Program} {w:World} {K:PySem.W.Frag} {mg:Str→Option Value} {base:Heap} {f:Addr} {cdv:Value} {A:Around} {outer:List Env} {s:Shared} {H:Hp} {E:XK} {d:Addr}
theorem d_place (D1:Def P w K mg base 1 "_law_take" ["store","many"] spTake) (hr:Room 1 (XD P w K mg base f cdv A outer s H E).A):ET (XD P w K mg base f cdv A outer s H E) d [some (rfP _ d),none,none,none,some (inP _ 0 24),none,none,none,some (dtP _)] (asgVal (stI 7)) (dtP _):=by
  refine e_ix (l1:=6) (h1:=6) (j:=5) (It:=dtP _) ?_ (e_draw D1 hr (by rfl) (e_var 0 (pv 0)) e_int)
  refine e_lst (It:=dtP _) (m:=6) ?_
  refine a_cons (It:=dtP _) (m:=5) ?_ ?_
  · exact e_up (e_var 4 (pv 4)) in_dt
  refine a_cons (It:=dtP _) (m:=4) ?_ ?_
  · exact e_up e_neg in_dt
  refine a_cons (It:=dtP _) (m:=3) ?_ ?_
  · exact e_var 8 (pv 8)
  refine a_cons (It:=dtP _) (m:=2) ?_ ?_
  · exact e_up (e_add (e_var 4 (pv 4)) (e_draw D1 hr (by rfl) (e_var 0 (pv 0)) e_int)) in_dt
  refine a_cons (It:=dtP _) (m:=1) ?_ ?_
  · exact e_up (e_sub e_int (e_var 4 (pv 4))) in_dt
  refine a_cons (It:=dtP _) (m:=0) ?_ ?_
  · exact e_var 8 (pv 8)
  exact a_nil
theorem d_weight (D1:Def P w K mg base 1 "_law_take" ["store","many"] spTake) (hr:Room 1 (XD P w K mg base f cdv A outer s H E).A):ET (XD P w K mg base f cdv A outer s H E) d [some (rfP _ d),none,none,none,none,none,none,none,some (dtP _)] (asgVal (stI 8)) (dtP _):=by
  refine e_ix (l1:=6) (h1:=6) (j:=5) (It:=dtP _) ?_ (e_draw D1 hr (by rfl) (e_var 0 (pv 0)) e_int)
  refine e_lst (It:=dtP _) (m:=6) ?_
  refine a_cons (It:=dtP _) (m:=5) ?_ ?_
  · exact e_up e_int in_dt
  refine a_cons (It:=dtP _) (m:=4) ?_ ?_
  · exact e_up e_neg in_dt
  refine a_cons (It:=dtP _) (m:=3) ?_ ?_
  · exact e_var 8 (pv 8)
  refine a_cons (It:=dtP _) (m:=2) ?_ ?_
  · exact e_var 8 (pv 8)
  refine a_cons (It:=dtP _) (m:=1) ?_ ?_
  · exact e_up (e_add e_int (e_draw D1 hr (by rfl) (e_var 0 (pv 0)) e_int)) in_dt
  refine a_cons (It:=dtP _) (m:=0) ?_ ?_
  · exact e_up (e_sub e_neg (e_draw D1 hr (by rfl) (e_var 0 (pv 0)) e_int)) in_dt
  exact a_nil
@[irreducible] noncomputable def kD:Expr:=(.List [(.Constant (.bool true) 0 ⟨346,11,346,15⟩),(.Constant (.bool false) 0 ⟨346,17,346,22⟩),(.Constant .none 0 ⟨346,24,346,28⟩),(.Constant (.str "1") 0 ⟨346,30,346,33⟩),(.List [(.Constant (.int 1) 0 ⟨346,36,346,37⟩)] ⟨346,35,346,38⟩),(.Tuple [(.Constant (.int 1) 0 ⟨346,41,346,42⟩)] 0 ⟨346,40,346,44⟩),(.Dict [] [] ⟨346,46,346,48⟩),(.BinOp (.Constant (.int 10) 0 ⟨346,50,346,52⟩) .Pow (.Constant (.int 25) 0 ⟨346,56,346,58⟩) ⟨346,50,346,58⟩),(.BinOp (.Constant (.int 0) 0 ⟨346,60,346,61⟩) .Sub (.BinOp (.Constant (.int 10) 0 ⟨346,64,346,66⟩) .Pow (.Constant (.int 25) 0 ⟨346,70,346,72⟩) ⟨346,64,346,72⟩) ⟨346,60,346,72⟩)] ⟨346,10,346,73⟩)
theorem kD_eq:kD=(.List [(.Constant (.bool true) 0 ⟨346,11,346,15⟩),(.Constant (.bool false) 0 ⟨346,17,346,22⟩),(.Constant .none 0 ⟨346,24,346,28⟩),(.Constant (.str "1") 0 ⟨346,30,346,33⟩),(.List [(.Constant (.int 1) 0 ⟨346,36,346,37⟩)] ⟨346,35,346,38⟩),(.Tuple [(.Constant (.int 1) 0 ⟨346,41,346,42⟩)] 0 ⟨346,40,346,44⟩),(.Dict [] [] ⟨346,46,346,48⟩),(.BinOp (.Constant (.int 10) 0 ⟨346,50,346,52⟩) .Pow (.Constant (.int 25) 0 ⟨346,56,346,58⟩) ⟨346,50,346,58⟩),(.BinOp (.Constant (.int 0) 0 ⟨346,60,346,61⟩) .Sub (.BinOp (.Constant (.int 10) 0 ⟨346,64,346,66⟩) .Pow (.Constant (.int 25) 0 ⟨346,70,346,72⟩) ⟨346,64,346,72⟩) ⟨346,60,346,72⟩)] ⟨346,10,346,73⟩):=by unfold kD;rfl
noncomputable abbrev kD_ix:Expr:=.Subscript kD (.Call (.Name "_law_take" ⟨346,74,346,83⟩) [(.Name "store" ⟨346,84,346,89⟩),(.Constant (.int 9) 0 ⟨346,91,346,92⟩)] [] ⟨346,74,346,93⟩) ⟨346,10,346,94⟩
theorem kD_body:defBody sLawDeed=(defBody sLawDeed).getD 0 (.Pass ⟨0,0,0,0⟩)::(defBody sLawDeed).getD 1 (.Pass ⟨0,0,0,0⟩)::(defBody sLawDeed).getD 2 (.Pass ⟨0,0,0,0⟩)::(defBody sLawDeed).getD 3 (.Pass ⟨0,0,0,0⟩)::(defBody sLawDeed).getD 4 (.Pass ⟨0,0,0,0⟩)::(defBody sLawDeed).getD 5 (.Pass ⟨0,0,0,0⟩)::.Assign [(.Name "odd" ⟨346,4,346,7⟩)] kD_ix ⟨346,4,346,94⟩::(defBody sLawDeed).drop 7:=by unfold kD_ix;rw [kD_eq];rfl
theorem d_odd (D1:Def P w K mg base 1 "_law_take" ["store","many"] spTake) (hr:Room 1 (XD P w K mg base f cdv A outer s H E).A):ET (XD P w K mg base f cdv A outer s H E) d [some (rfP _ d),none,none,none,none,none,none,none,none] kD_ix (dtP _):=by
  refine e_ix (l1:=9) (h1:=9) (j:=8) (It:=dtP _) ?_ (e_draw D1 hr (by rfl) (e_var 0 (pv 0)) e_int)
  rw [kD_eq]
  refine e_lst (It:=dtP _) (m:=9) ?_
  refine a_cons (It:=dtP _) (m:=8) ?_ ?_
  · exact e_blD
  refine a_cons (It:=dtP _) (m:=7) ?_ ?_
  · exact e_blD
  refine a_cons (It:=dtP _) (m:=6) ?_ ?_
  · exact e_nonD
  refine a_cons (It:=dtP _) (m:=5) ?_ ?_
  · exact e_strD
  refine a_cons (It:=dtP _) (m:=4) ?_ ?_
  · exact e_lst1D
  refine a_cons (It:=dtP _) (m:=3) ?_ ?_
  · exact e_tup1D
  refine a_cons (It:=dtP _) (m:=2) ?_ ?_
  · exact e_empD
  refine a_cons (It:=dtP _) (m:=1) ?_ ?_
  · exact e_up e_pow25 in_dt
  refine a_cons (It:=dtP _) (m:=0) ?_ ?_
  · exact e_up (e_sub e_int e_pow25) in_dt
  exact a_nil
end
noncomputable abbrev namA:List Str:=["keeper","deed","due","caught","found","e"]
noncomputable abbrev XA (P:Program) (w:World) (K:PySem.W.Frag) (mg:Str→Option Value) (base:Heap) (f:Addr) (cdv:Value) (A:Around) (outer:List Env) (s:Shared) (H:Hp) (E:XK):Cx:=Cx.nox (cxOf CX0 P w K mg base namA "_law_asked" (defScope sLawAsked) f cdv A outer s H E)
noncomputable abbrev stA (i:Nat):Stmt:=(defBody sLawAsked).getD i (.Pass ⟨0,0,0,0⟩)
theorem scAsked:FnScope namA ["keeper","deed","due"] (defScope sLawAsked):=⟨rfl,rfl,rfl,by decide +kernel,rfl,by decide +kernel,by decide +kernel⟩
noncomputable def tAT (K:PySem.W.Frag) (c:Nat→Addr):TS:=fun D σ H=>(σ[3]?=some (some .non)∧∃ t xs,σ[4]?=some (some (.ref t))∧H t=some (.tup xs)∧∀ H',Same H H'→D.rt (.ref t) H')∨(∃ x C,∃ i:Nat,∃ wd word:Str,σ[3]?=some (some (.ref x))∧σ[2]?=some (some (.str word))∧H x=some (excO x C)∧Kind K c C i∧wordsL[i]?=some wd∧PyData.canLay0 (.str word)=true∧∀ H',Same H H'→D.rt (.str (if wd=word then word else "other")) H')
noncomputable def spAsked (C:Addr):Sp:=fun vs H Q _=>∃ (kp dx sl:Addr) (as:List AF) (b:Nat) (ps:List Nat) (ini:List (List Int)) (ws:List Int) (hist:List (Nat×Int)) (dv u:V) (d:Option (V×V)),vs=[.ref kp,dv,u]∧KpAt C H kp dx sl as b ps (ini++[ws])∧hist.length=ini.length∧ini.length≤900∧Deed H dv d∧
  (∀ (i0:List (List Int)) (wz:List Int) (ai:List AF) (t:Addr) (H':Hp),d=none→ini=i0++[wz]→(∀ x∈ai,x∈as)→H t=none→H' t=some (.tup [.int (evN b ps ws),.int (evN b ps wz)])→KpAt C H' kp dx sl ai b ps (i0++[wz])→Kp [sl] H H'→Q (.ref t) H')∧
  (∀ (p:Nat) (x:Int) (t:Addr) (xn:AF) (H':Hp),d=some (.int p,.int x)→p<ws.length→-9≤x→x≤9→H t=none→H' t=some (.tup [.int (evN b ps ws),.int (evN b ps (ws.set p x))])→H xn.2.1=none→H xn.2.2=none→KpAt C H' kp dx sl (as++[xn]) b ps (ini++[ws]++[ws.set p x])→Kp [sl] H H'→Q (.ref t) H')∧
  (∀ wd:Str,DueW ws hist d wd→∃ word:Str,u=.str word∧PyData.canLay0 (.str word)=true∧∀ H',Same H H'→Q (.str (if wd=word then word else "other")) H')
section
variable {P:Program} {w:World} {K:PySem.W.Frag} {mg:Str→Option Value} {base:Heap} {C:Addr} {c:Nat→Addr}
theorem scLawDeed:FnScope ["store","state","frame","early","size","way","place","weight","odd"] ["store","state"] (defScope sLawDeed):=⟨rfl,rfl,rfl,by decide +kernel,rfl,by decide +kernel,by decide +kernel⟩
theorem ok_deed {f:Addr} {fd:FuncData} (F:Fun K "_law_deed" "_law_deed" sLawDeed f fd) (T:Txt mg) (d_law_take:Def P w K mg base 1 "_law_take" ["store","many"] spTake):FnOk P w K mg base CX0 2 f fd ["store","state"] spDeed:=by
  refine F.ok scLawDeed (fun vs H Q E h=>?_) (fun cdv A outer s H vs Q E hr h=>?_)
  · obtain ⟨st,s,f,a,c,e,ks,b,ps,ws,hist,rfl,_⟩:=h;rfl
  · obtain ⟨st,sa,fa,a,c,e,ks,b,ps,ws,hist,rfl,E0,S,na,nc,k⟩:=h
    have nd:=scLawDeed.nd
    have hr1:Room 1 (XD P w K mg base f cdv A outer s H E).A:=hr
    rw [kD_body]
    refine ⟨_,(pss_cons (ps_asg (pv 1) (pg_tup rfl (pgs_cons (pg_name (i:=2) nd rfl (Or.inl rfl)) (pgs_cons (pg_name (i:=3) nd rfl (Or.inl rfl)) pgs_nil))))
      (pss_cons (ps_set (i:=4) nd rfl (Or.inl rfl) (lenS T.len (by rfl) (ixt (pv 2) pe_int)))
      (pss_cons (ps_set (i:=5) nd rfl (Or.inl rfl) (pe_fn d_law_take hr (by rfl) (pa_cons (pv 0) (pa_cons pe_int pa_nil))))
      (pss_cons (ps_if (pt_cmpR op_lt (pv 5) pe_int (nomark _)) (pss_one (ps_ret pe_non)) pss_nil)
      (pss_cons (ps_set (i:=6) nd rfl (Or.inl rfl) (pe_fn d_law_take hr (by rfl) (pa_cons (pv 0) (pa_cons (pv 4) pa_nil))))
      (pss_cons (ps_set (i:=7) nd rfl (Or.inl rfl) (ixl (pe_lst (pa_cons (pe_op op_sub (pe_fn d_law_take hr (by rfl) (pa_cons (pv 0) (pa_cons pe_int pa_nil))) pe_int) (pa_cons (pe_op op_sub (pe_fn d_law_take hr (by rfl) (pa_cons (pv 0) (pa_cons pe_int pa_nil))) pe_int) (pa_cons pe_int (pa_cons (ixl (ixt (pv 2) pe_int) (pv 6)) pa_nil))))) (pe_fn d_law_take hr (by rfl) (pa_cons (pv 0) (pa_cons pe_int pa_nil)))))
      (pss_cons (ps_set (i:=8) nd rfl (Or.inl rfl) (pe_some fun d=>d_odd (d:=d) d_law_take hr1))
      (pss_cons (ps_cut (ps_if (pt_cmpR op_eq (pv 5) pe_int (nomark _)) (pss_one (ps_set (i:=6) nd rfl (Or.inl rfl) (pe_some fun d=>d_place (d:=d) d_law_take hr1))) pss_nil))
      (pss_cons (ps_cut (ps_if (PW.pt (pw_or (pt_cmpR op_eq (pv 5) pe_int (nomark _)) (pw_or1 (PW.pt (pw_and (pt_cmpR op_eq (pv 5) pe_int (nomark _)) (pw_and1 (pt_cmpR op_eq (pe_fn d_law_take hr (by rfl) (pa_cons (pv 0) (pa_cons pe_int pa_nil))) pe_int (nomark _)))))))) (pss_one (ps_set (i:=7) nd rfl (Or.inl rfl) (pe_some fun d=>d_weight (d:=d) d_law_take hr1))) pss_nil))
      (pss_one (ps_ret (pe_tup (pa_cons (pv 6) (pa_cons (pv 7) pa_nil)))))))))))))),?_⟩
    have ok:=S.fr.ok
    have hwl:=ok.wl
    have hsm:=ok.sum
    refine ⟨_,rfl,sa,_,rfl,SqT.of S.hs,rfl,_,_,rfl,_,_,rfl,rfl,?_⟩
    refine ⟨_,rfl,_,_,_,_,rfl,rfl,SqT.of S.fr.tp,rfl,c,_,rfl,.inl (SqL.of S.fr.hw),?_⟩
    rw [List.length_map]
    refine ⟨_,rfl,st,8,rfl,E0,by decide,by decide,fun r1 H1 r10 r11 E1 k1=>?_⟩
    refine ⟨_,rfl,_,_,rfl,rfl,_,rfl,ite2 (fun _=>k .non none H1 E1 k1 (.inl ⟨rfl,rfl⟩)) (fun _=>?_)⟩
    refine ⟨_,rfl,_,rfl,st,_,rfl,E1,by lia,by lia,fun r2 H2 r20 r21 E2 k2=>?_⟩
    obtain ⟨p,rfl⟩:∃ p:Nat,r2=(p:Int):=⟨r2.toNat,by lia⟩
    obtain ⟨y,hy⟩:∃ y,ws[p]?=some y:=⟨_,List.getElem?_eq_getElem (by lia)⟩
    have ey:atI (ws.map V.int) (p:Int)=some (V.int y):=atI_nat (by rw [List.getElem?_map,hy];rfl)
    refine ⟨_,rfl,st,19,rfl,E2,by decide,by decide,fun r3 H3 r30 r31 E3 k3=>⟨_,_,rfl,rfl,_,rfl,st,19,rfl,E3,by decide,by decide,fun r4 H4 r40 r41 E4 k4=>?_⟩⟩
    have K4:=((k1.trans k2).trans k3).trans k4
    have G4:=S.fr.kps E0 na nc K4
    refine ⟨_,_,rfl,rfl,_,rfl,_,_,_,_,rfl,rfl,SqT.of G4.tp,rfl,_,rfl,_,_,_,_,rfl,rfl,SqL.of G4.hw,ey,sz (by simp),fun l hl=>?_⟩
    have t5:=same_upd (o:=.lst ([r3 - 9,r4 - 9,1,y].map V.int)) hl
    have u5:(upd H4 l (.lst ([r3 - 9,r4 - 9,1,y].map V.int))) l=_:=upd_same
    have nls:l∉[st]:=E4.off1 hl
    have e5:upd H4 l (.lst [V.int (r3 - 9),V.int (r4 - 9),V.int 1,V.int y])=upd H4 l (.lst ([r3 - 9,r4 - 9,1,y].map V.int)):=rfl
    have E5:=E4.keep t5
    have K5:=K4.same t5
    rw [e5]
    generalize upd H4 l (.lst ([r3 - 9,r4 - 9,1,y].map V.int))=H5 at t5 u5 E5 K5⊢
    refine ⟨_,rfl,st,4,rfl,E5,by decide,by decide,fun r5 H6 r50 r51 E6 k6=>?_⟩
    obtain ⟨wv,ewv,_⟩:=at_ints (ns:=[r3 - 9,r4 - 9,1,y]) (i:=r5) (Pr:=fun _=>True) r50 r51 (fun _ _=>trivial)
    refine r_ixl (k6 _ _ u5 nls) ewv ?_
    have K6:=K5.trans k6
    -- odd
    refine ⟨st,.cons (fun P e=>by cases e;exact ⟨_,rfl,rfl⟩) (.cons (fun P e=>by cases e) (.cons (fun P e=>by cases e) (.cons (fun P e=>by cases e) (.cons (fun P e=>by cases e) (.cons (fun P e=>by cases e) (.cons (fun P e=>by cases e) (.cons (fun P e=>by cases e) (.cons (fun P e=>by cases e) .nil)))))))),E6,fun od H11 E11 k11 ho=>?_⟩
    have K11:Kp [st] H H11:=K6.trans k11
    have ho11:DT H11 od:=DT.keep ho off_sub
    -- the place
    refine ⟨fun σ H'=>∃ pl,σ=[some (.ref st),some (.ref sa),some (.ref fa),some (.ref e),some (.int (ws.length:Int)),some (.int r1),some pl,some (.int wv),some od]∧DT H' pl∧DT H' od∧Store H' st∧Kp [st] H H',?if1,?tl1⟩
    case if1 =>
      refine ⟨_,rfl,rfl,_,rfl,ite2 (fun _=>?_) (fun _=>⟨_,rfl,dt_int,ho11,E11,K11⟩)⟩
      refine ⟨st,.cons (fun P e=>by cases e;exact ⟨_,rfl,rfl⟩) (.cons (fun P e=>by cases e) (.cons (fun P e=>by cases e) (.cons (fun P e=>by cases e) (.cons (fun P e=>by cases e;exact ⟨_,rfl,⟨_,rfl,by lia,by lia⟩⟩) (.cons (fun P e=>by cases e) (.cons (fun P e=>by cases e) (.cons (fun P e=>by cases e) (.cons (fun P e=>by cases e;exact ⟨_,rfl,dt_off ho11 E11⟩) .nil)))))))),E11,fun pl H14 E14 k14 hp=>?_⟩
      exact ⟨pl,rfl,DT.keep hp off_sub,ho11.kst E11 k14,E14,K11.trans k14⟩
    rintro σ H12 ⟨pl,rfl,hp,ho12,E12,K12⟩
    -- the weight
    refine ⟨fun σ H'=>∃ wt,σ=[some (.ref st),some (.ref sa),some (.ref fa),some (.ref e),some (.int (ws.length:Int)),some (.int r1),some pl,some wt,some od]∧DT H' pl∧DT H' wt∧Store H' st∧Kp [st] H H',?if2,?tl2⟩
    case if2 =>
      refine ⟨_,rfl,rfl,_,rfl,ite2 (fun _=>iteT ?_) (fun _=>⟨_,rfl,rfl,_,rfl,ite2 (fun _=>⟨_,rfl,st,2,rfl,E12,by decide,by decide,fun q0 H13 q00 q01 E13 k13=>⟨rfl,_,rfl,ite2 (fun _=>?_) (fun _=>⟨_,rfl,hp.kst E12 k13,dt_int,E13,K12.trans k13⟩)⟩⟩) (fun _=>iteF ⟨_,rfl,hp,dt_int,E12,K12⟩)⟩)⟩
      · refine ⟨st,.cons (fun P e=>by cases e;exact ⟨_,rfl,rfl⟩) (.cons (fun P e=>by cases e) (.cons (fun P e=>by cases e) (.cons (fun P e=>by cases e) (.cons (fun P e=>by cases e) (.cons (fun P e=>by cases e) (.cons (fun P e=>by cases e) (.cons (fun P e=>by cases e) (.cons (fun P e=>by cases e;exact ⟨_,rfl,dt_off ho12 E12⟩) .nil)))))))),E12,fun wt H14 E14 k14 hw=>?_⟩
        exact ⟨wt,rfl,hp.kst E12 k14,DT.keep hw off_sub,E14,K12.trans k14⟩
      · refine ⟨st,.cons (fun P e=>by cases e;exact ⟨_,rfl,rfl⟩) (.cons (fun P e=>by cases e) (.cons (fun P e=>by cases e) (.cons (fun P e=>by cases e) (.cons (fun P e=>by cases e) (.cons (fun P e=>by cases e) (.cons (fun P e=>by cases e) (.cons (fun P e=>by cases e) (.cons (fun P e=>by cases e;exact ⟨_,rfl,dt_off (ho12.kst E12 k13) E13⟩) .nil)))))))),E13,fun wt H14 E14 k14 hw=>?_⟩
        exact ⟨wt,rfl,(hp.kst E12 k13).kst E13 k14,DT.keep hw off_sub,E14,(K12.trans k13).trans k14⟩
    rintro σ H13 ⟨wt,rfl,hp13,hw13,E13,K13⟩
    refine ⟨_,rfl,_,rfl,sz (by simp),fun t ht=>?_⟩
    have t14:=same_upd (o:=.tup [pl,wt]) ht
    exact k _ (some (pl,wt)) _ (E13.keep t14) (K13.same t14) (.inr ⟨t,pl,wt,rfl,rfl,upd_same,hp13.keep t14,hw13.keep t14⟩)
theorem asked_tail {f:Addr} {cdv:Value} {A:Around} {outer:List Env} {s:Shared} {H:Hp} {E:XK} (T:Txt mg) (nstr:mg "str"=none) (DK:Def P w K mg base 1 "_law_kind" ["e","due"] (spKind K c)) (hr:Room 1 (XA P w K mg base f cdv A outer s H E).A):PSs (XA P w K mg base f cdv A outer s H E) [stA 3,stA 4] (tAT K c):=by
  refine weakSs (pss_cons (ps_if (pt_cmpR op_isN (pv 3) pe_non (nomark _)) (pss_one (ps_ret (ixl (pe_lst (pa_cons (pv 4) (pa_cons pe_str pa_nil))) (pe_callTy call_int1 (by rfl) T.int boot_int (pa_cons (pe_callB call_isi (by rfl) T.isi boot_isinstance (pa_cons (pv 4) (pa_cons (pe_ty nstr boot_str') pa_nil))) pa_nil))))) pss_nil)
    (pss_one (ps_ret (ixl (pe_lst (pa_cons pe_str (pa_cons (pv 2) pa_nil))) (pe_callTy call_int1 (by rfl) T.int boot_int (pa_cons (pe_and (pe_callB call_isi (by rfl) T.isi boot_isinstance (pa_cons (pv 2) (pa_cons (pe_ty nstr boot_str') pa_nil))) (pe_one (pe_fn DK hr (by rfl) (pa_cons (pv 3) (pa_cons (pv 2) pa_nil))))) pa_nil)))))) fun D σ H h=>?_
  rcases h with ⟨e3,t,xs,e4,ht,k⟩ | ⟨x,C,i,wd,word,e3,e2,hx,kd,hw,hlay,k⟩
  · refine ⟨_,e3,rfl,_,rfl,iteT ⟨_,e4,sz (by simp),fun l hl=>?_⟩⟩
    have s1:=same_upd (o:=.lst [V.ref t,V.str "told"]) hl
    exact ⟨_,e4,_,_,_,_,rfl,.tup (s1 _ _ ht),kit_tS,.inr ⟨_,rfl,r_ixl upd_same rfl (k _ s1)⟩⟩
  · refine ⟨_,e3,rfl,_,rfl,iteF ⟨_,e2,sz (by simp),fun l hl=>?_⟩⟩
    have s1:=same_upd (o:=.lst [V.str "other",V.str word]) hl
    have u1:(upd H l (.lst [V.str "other",V.str word])) l=_:=upd_same
    generalize upd H l (.lst [V.str "other",V.str word])=H1 at s1 u1⊢
    refine ⟨_,e2,_,_,_,_,rfl,.str word,kit_sS,true,rfl,iteT ⟨_,e3,_,e2,x,C,i,wd,word,rfl,hlay,s1 _ _ hx,kd,hw,fun H2 s2=>?_⟩⟩
    by_cases hq:wd=word
    · rw [decide_eq_true hq]
      refine .inr ⟨_,rfl,r_ixl (s2 _ _ u1) rfl ?_⟩
      have:=k H2 (s1.trans s2)
      rw [if_pos hq] at this
      exact this
    · rw [decide_eq_false hq]
      refine .inr ⟨_,rfl,r_ixl (s2 _ _ u1) rfl ?_⟩
      have:=k H2 (s1.trans s2)
      rw [if_neg hq] at this
      exact this
theorem ok_asked {f:Addr} {fd:FuncData} {B:Addr} (F:Fun K "_law_asked" "_law_asked" sLawAsked f fd) (T:Txt mg) (nstr:mg "str"=none) (hB:mg "HalfError"=some (.ref B)) (U1:Up K (c 1) B) (U2:Up K (c 2) B) (k1:Kind K c (c 1) 1) (k2:Kind K c (c 2) 2) (cl:Cls K C) (DK:Def P w K mg base 1 "_law_kind" ["e","due"] (spKind K c))
    (MU:MDef1 P w K mg base 8 C "undo" ["self"] (spOr (spUndo C) (spNoUndo C (c 1)))) (MW:MDef1 P w K mg base 8 C "weigh" ["self","place","weight"] (spOr (spWeigh C) (spNoWeigh C (c 2) (c 1)))):FnOk P w K mg base CX0 9 f fd ["keeper","deed","due"] (spAsked C):=by
  refine F.ok scAsked (fun vs H Q E h=>?_) (fun cdv A outer s H vs Q E hr h=>?_)
  · obtain ⟨kp,dx,sl,as,b,ps,ini,ws,hist,dv,u,d,rfl,_⟩:=h;rfl
  · obtain ⟨kp,dx,sl,as,b,ps,ini,ws,hist,dv,u,d,rfl,S,hh,hl,D,kU,kW,kB⟩:=h
    have nd:=scAsked.nd
    have hr1:Room 1 (XA P w K mg base f cdv A outer s H E).A:=hr.mono (by decide)
    refine ⟨_,pss_cons (ps_set (i:=3) nd rfl (Or.inl rfl) pe_non) (pss_cons (ps_set (i:=4) nd rfl (Or.inl rfl) pe_non)
      (pss_cons (ps_try (ie:=5) (pxs_one (px_if (pt_cmpR op_isN (pv 1) pe_non (nomark _)) (pxs_one (px_mset0 (i:=4) cl MU nd rfl (Or.inl rfl) hr (pv 0))) (pxs_one (px_mset (i:=4) cl MW nd rfl (Or.inl rfl) hr (pv 0) (pa_cons (ixt (pv 1) pe_int) (pa_cons (ixt (pv 1) pe_int) pa_nil)))))) rfl rfl rfl nd rfl (Or.inl rfl) rfl rfl (Or.inl rfl) (by rfl) hB
          (fun v=>pss_one (ps_set (i:=3) nd rfl (Or.inl rfl) (pv 5))))
      (asked_tail T nstr DK hr1))),?_⟩
    have hN:∀ (t:Addr) (xs:List V) (H':Hp),H' t=some (.tup xs)→(∀ H'',Same H' H''→Q (.ref t) H'')→tAT K c {nx:=fun x H'=>Q V.non H',rt:=Q} [some (.ref kp),some dv,some u,some .non,some (.ref t),none] H':=fun t xs H' h k=>.inl ⟨rfl,t,xs,rfl,h,k⟩
    have hE:∀ (j:Nat) (wd:Str),Up K (c j) B→Kind K c (c j) j→wordsL[j]?=some wd→DueW ws hist d wd→∀ H',Same H H'→∃ A,Value.ref (c j)=Value.ref A∧Up K A B∧∀ x,H' x=none→∃ v,(([some (.ref kp),some dv,some u,some .non,some .non,none]:St).set 5 (some (.ref x)))[5]?=some (some v)∧tAT K c {nx:=fun x H'=>Q V.non H',rt:=Q} (((([some (.ref kp),some dv,some u,some .non,some .non,none]:St).set 5 (some (.ref x))).set 3 (some v)).set 5 none) (upd H' x (excO x A)) :=
      fun j wd U kd hw hd H' s'=>⟨_,rfl,U,fun x hx=>by
        obtain ⟨word,e,hlay,k⟩:=kB wd hd
        subst e
        exact ⟨_,rfl,.inr ⟨x,c j,j,wd,word,rfl,rfl,upd_same,kd,hw,hlay,fun H2 s2=>k H2 ((s'.trans (same_upd hx)).trans s2)⟩⟩⟩
    refine ⟨_,rfl,rfl,_,rfl,?_⟩
    rcases D with ⟨rfl,rfl⟩ | ⟨t,pl,wt,rfl,rfl,ht,d1,d2⟩
    · refine iteT ⟨_,rfl,kp,dx,_,rfl,S.ob,stF_no (by decide +kernel),?_⟩
      rcases Nat.eq_zero_or_pos ini.length with h0 | h0
      · have ei:ini=[]:=List.eq_nil_of_length_eq_zero h0
        subst ei
        have eh:hist=[]:=List.eq_nil_of_length_eq_zero (by rw [hh];rfl)
        exact .inr ⟨kp,dx,sl,as,b,ps,ws,rfl,S,hE 1 "number" U1 k1 rfl (.inl ⟨rfl,eh,rfl⟩)⟩
      · obtain ⟨i0,wz,rfl⟩:=one_last (l:=ini) h0
        have hla:=S.len
        simp at hla
        obtain ⟨ai,x,rfl⟩:=one_last (l:=as) (by lia)
        simp at hl
        exact .inl ⟨kp,dx,sl,ai,x,b,ps,i0,wz,ws,rfl,S,by lia,fun t H' nt ht K' k'=>hN t _ H' ht fun H'' s''=>kU i0 wz ai t H'' rfl rfl (fun y hy=>List.mem_append_left _ hy) nt (s'' _ _ ht) (K'.keep s'') (k'.same s'')⟩
    · refine iteF ⟨_,rfl,kp,dx,_,rfl,S.ob,stF_no (by decide +kernel),_,rfl,_,_,_,_,rfl,rfl,SqT.of ht,rfl,_,rfl,_,_,_,_,rfl,rfl,SqT.of ht,rfl,?_⟩
      cases e1:betw pl 0 ((ws.length:Int) - 1) with
      | false=>exact .inr ⟨kp,dx,sl,as,b,ps,ini,ws,pl,wt,rfl,S,d1.thing,d2.thing,.inl ⟨e1,hE 2 "part" U2 k2 rfl (.inr ⟨pl,wt,rfl,.inl ⟨e1,rfl⟩⟩)⟩⟩
      | true =>
        cases e2:betw wt (-9) 9 with
        | false=>exact .inr ⟨kp,dx,sl,as,b,ps,ini,ws,pl,wt,rfl,S,d1.thing,d2.thing,.inr ⟨e1,e2,hE 1 "number" U1 k1 rfl (.inr ⟨pl,wt,rfl,.inr ⟨e1,e2,rfl⟩⟩)⟩⟩
        | true =>
          obtain ⟨p,rfl,hp⟩:∃ p:Nat,pl=.int p∧p<ws.length:=by
            cases pl with
            | int i =>
              simp only [betw,Bool.and_eq_true,decide_eq_true_eq] at e1
              exact ⟨i.toNat,by rw [Int.toNat_of_nonneg e1.1],by lia⟩
            | _=>cases e1
          obtain ⟨x,rfl,hx1,hx2⟩:∃ x:Int,wt=.int x∧-9≤x∧x≤9:=by
            cases wt with
            | int i =>
              simp only [betw,Bool.and_eq_true,decide_eq_true_eq] at e2
              exact ⟨i,rfl,e2.1,e2.2⟩
            | _=>cases e2
          exact .inl ⟨kp,dx,sl,as,b,ps,ini,ws,p,x,rfl,S,hp,hx1,hx2,by lia,fun t' xn H' nt ht' n1 n2 n3 K' k'=>hN t' _ H' ht' fun H'' s''=>kW p x t' xn H'' rfl hp hx1 hx2 nt (s'' _ _ ht') n2 n3 (K'.keep s'') (k'.same s'')⟩
end
end Hv
namespace Hv
open PySem L2
noncomputable def spWays:Sp:=fun vs H Q _=>∃ (b:Nat) (r:Addr) (ws:List Int),vs=[.int b,.ref r]∧H r=some (.lst (ws.map V.int))∧b≤16∧(∀ x∈ws,-9≤x∧x≤9)∧ws.length≤6∧
  ∀ p H',H p=none→Same H H'→H' p=some (.dK (intsD (Me.waysW b ws)))→Q (.ref p) H'
noncomputable def spWeights:Sp:=fun vs H Q _=>∃ f a c b ps ws,vs=[.ref f]∧FrAt H f a c b ps ws∧∀ p qs H',Same H H'→H p=none→H' p=some (.lst (qs.map V.ref))→RowsAt H' qs (Ma.cuts ps ws)→Q (.ref p) H'
section
variable {P:Program} {w:World} {K:PySem.W.Frag} {mg:Str→Option Value} {base:Heap}
theorem scLawPart:FnScope ["base","weights","found","weight","more","here","figure","there"] ["base","weights"] (defScope sLawPart):=⟨rfl,rfl,rfl,by decide +kernel,rfl,by decide +kernel,by decide +kernel⟩
theorem ok_part {f:Addr} {fd:FuncData} (F:Fun K "_law_part" "_law_part" sLawPart f fd) (T:Txt mg):FnOk P w K mg base CX0 1 f fd ["base","weights"] spWays:=by
  refine F.ok scLawPart (fun vs H Q E h=>?_) (fun cdv A outer s H vs Q E hr h=>?_)
  · obtain ⟨b,r,ws,rfl,_⟩:=h;rfl
  · obtain ⟨b,r,ws,rfl,hrow,hb,hw,hlen,k⟩:=h
    have nd:=scLawPart.nd
    have hu:=hu_of hr
    refine ⟨_,(pss_cons (ps_set (i:=2) nd rfl (Or.inl rfl) (pe_disp (pps_cons pe_int pe_int pps_nil) rfl rfl (by simp) (by decide)))
      (pss_cons (ps_for PassesOwn.never rfl (pi_list (pv 1)) (pg_name (i:=3) nd rfl (Or.inl rfl))
        (pss_cons (ps_set (i:=4) nd rfl (Or.inl rfl) pe_dnewK)
        (pss_cons (ps_for PassesOwn.never rfl (pi_dict (pv 2)) (pg_name (i:=5) nd rfl (Or.inl rfl))
          (pss_one (ps_for PassesOwn.never rfl (pi_range1 (by rfl) T.range (pa_cons (pv 0) pa_nil)) (pg_name (i:=6) nd rfl (Or.inl rfl))
            (pss_cons (ps_set (i:=7) nd rfl (Or.inl rfl) (pe_op op_add (pv 5) (pe_op op_mul (pv 6) (pv 3))))
            (pss_one (ps_dput hu (pv 4) (pv 7) (pe_op op_add (pe_dget2 hu (pv 4) (pv 7) pe_int ⟨rfl,rfl,rfl,rfl⟩) (pe_dget hu (pv 2) (pv 5) (fun _ _=>rfl))) rfl))))))
        (pss_thaw (pss_one (ps_set (i:=2) nd rfl (Or.inl rfl) (pv 4)))))))
      (pss_one (ps_ret (pv 2))))),?_⟩
    intro p0 hp0
    refine ⟨upd_same,[(Sum.inl 0,.int 1)],rfl,by decide,?_⟩
    have s0:Same H (upd (upd H p0 (.dK [])) p0 (.dK (mergeK [] [(Sum.inl 0,V.int 1)]))):=same_upd2 (same_upd hp0) hp0
    have u0:(upd (upd H p0 (.dK [])) p0 (.dK (mergeK [] [(Sum.inl 0,V.int 1)]))) p0=some (.dK (intsD [(0,1)])):=upd_same
    generalize upd (upd H p0 (.dK [])) p0 (.dK (mergeK [] [(Sum.inl 0,V.int 1)]))=H0 at s0 u0⊢
    refine ⟨_,rfl,r,rfl,⟨_,SqL.of (s0 _ _ hrow)⟩,for_list (K:=K) (a:=r) (xs:=ws.map V.int) (fun i σ H2=>∃ p v3 v4 v5 v6 v7,σ=[some (.int b),some (.ref r),some (.ref p),v3,v4,v5,v6,v7]∧Same H H2∧H p=none∧H2 p=some (.dK (intsD (Me.waysW b (ws.take i)))))
      ⟨p0,none,none,none,none,none,rfl,s0,hp0,u0⟩ (fun i σ H2 _ h=>by obtain ⟨_,_,_,_,_,_,_,s2,_⟩:=h;exact SqL.of (s2 _ _ hrow)) ?_ ?_⟩
    · rintro i x σ H2 hx ⟨a,v3,v4,v5,v6,v7,rfl,s2,na,ha⟩
      have hil:i<ws.length:=by have:=(List.getElem?_eq_some_iff.mp hx).1;simpa using this
      obtain ⟨wt,hy,rfl⟩:∃ y:Int,ws[i]?=some y∧x=.int y:=by
        rw [List.getElem?_map] at hx
        cases e:ws[i]? with
        | none=>rw [e] at hx;cases hx
        | some d=>rw [e] at hx;exact ⟨d,rfl,(Option.some.inj hx).symm⟩
      have hw':=hw wt (List.mem_of_getElem? hy)
      have ok:=waysOk (i:=i) hw hb
      have ew:=Me.waysW_take (b:=b) hy
      generalize Me.waysW b (ws.take i)=f at ha ok ew
      intro l hl
      have nal:a≠l:=ne_of_none ha hl
      have hlH:H l=none:=s2.free hl
      refine ⟨_,rfl,a,intsD f,rfl,(by rw [upd_ne nal];exact ha),fun o=>for_dict (fun j σ H3=>∃ v5 v6 v7,σ=[some (.int b),some (.ref r),some (.ref a),some (.int wt),some (.ref l),v5,v6,v7]∧H3 a=some (.frz o (.dK (intsD f)))∧Kp [a] H2 H3∧H3 l=some (.dK (intsD (Me.oneMore (f.take j) b wt))))
        ⟨v5,v6,v7,rfl,upd_same,kp_upd (kp_upd Kp.refl (.inr hl)) (.inl (by simp)),?_⟩ (fun j σ H3 _ h=>by obtain ⟨_,_,_,_,z,_⟩:=h;exact z) ?_ ?_⟩
      · rw [upd_ne nal.symm,upd_same];rfl
      · rintro j kk v σ H3 hk ⟨v5,v6,v7,rfl,fa,kp,hl2⟩
        obtain ⟨p,hp,rfl,rfl⟩:=ints_at hk
        have pm:=List.mem_of_getElem? hp
        have pb:=ok.bd p.1 (List.mem_map.mpr ⟨p,pm,rfl⟩)
        have o0:=Me.oneMore_ok ok hw' hb j
        refine ⟨_,rfl,_,rfl,by lia,by lia,for_range (n:=(b:Int).toNat) (fun d σ H4=>∃ v6 v7,σ=[some (.int b),some (.ref r),some (.ref a),some (.int wt),some (.ref l),some (.int p.1),v6,v7]∧H4 a=some (.frz o (.dK (intsD f)))∧Kp [a] H2 H4∧H4 l=some (.dK (intsD (Me.figs p wt d (Me.oneMore (f.take j) b wt)))))
          ⟨v6,v7,rfl,fa,kp,hl2⟩ ?_ ?_⟩
        · rintro d σ H4 hd ⟨v6,v7,rfl,fa3,kp3,hl3⟩
          have hd':d<b:=by lia
          have od:=Me.figs_ok pb hw' hb o0 d (by lia)
          have hlen4:=Me.Ok.len (m:=135*i+135) (by push_cast at od⊢;exact od)
          refine ⟨_,rfl,_,rfl,_,rfl,_,_,rfl,rfl,.inr ⟨by lia,by lia⟩,_,_,rfl,rfl,?_⟩
          refine ⟨_,rfl,l,rfl,.inl ⟨_,.inl hl3⟩,_,rfl,_,dget_ints (.inl hl3),_,rfl,_,rfl,a,.int p.2,rfl,?_,_,_,getD_int _,rfl,_,rfl,_,rfl,l,_,rfl,dput_ints hl3 (by lia),?_⟩
          · have z:=dget_ints (k:=p.1) (.inr ⟨o,fa3⟩)
            rw [Me.look_mem ok.nd pm] at z
            exact z
          · refine ⟨_,_,rfl,?_,kp_upd kp3 (.inr hl),?_⟩
            · rw [upd_ne nal];exact fa3
            · rw [upd_same,Me.figs_succ]
              have e0:(0:Int)+(d:Int)=(d:Int):=Int.zero_add _
              rw [e0]
              rfl
        · rintro σ H4 ⟨v6,v7,rfl,fa3,kp3,hl3⟩
          refine ⟨_,_,_,rfl,fa3,kp3,?_⟩
          have eb:(b:Int).toNat=b:=by lia
          rw [eb] at hl3
          rw [Me.oneMore_take hp]
          exact hl3
      · rintro σ H3 ⟨v5,v6,v7,rfl,fa,kp,hl2⟩
        have el:(intsD f).length=f.length:=by rw [intsD,List.length_map]
        rw [el,List.take_length] at hl2
        refine ⟨a,o,intsD f,fa,(fun o' u z=>by
          have z':H a=some (.frz o' u):=z
          rw [na] at z';cases z'),_,rfl,l,_,_,_,_,_,rfl,fun x ob e=>?_,hlH,?_⟩
        · have e2:=s2 x ob e
          have hx:x≠a:=ne_of_none e na
          rw [upd_ne hx];exact kp x ob e2 (by simpa using hx)
        · rw [upd_ne nal.symm,ew];exact hl2
    · rintro σ H2 ⟨p,v3,v4,v5,v6,v7,rfl,s2,np,hp⟩
      rw [List.length_map,List.take_length] at hp
      exact ⟨_,rfl,k p H2 np s2 hp⟩
theorem scLawCut:FnScope ["frame","found","at","size"] ["frame"] (defScope sLawCut):=⟨rfl,rfl,rfl,by decide +kernel,rfl,by decide +kernel,by decide +kernel⟩
theorem ok_cutl {f:Addr} {fd:FuncData} (F:Fun K "_law_cut" "_law_cut" sLawCut f fd):FnOk P w K mg base CX0 1 f fd ["frame"] spWeights:=by
  refine F.ok scLawCut (fun vs H Q E h=>?_) (fun cdv A outer s H vs Q E hr h=>?_)
  · obtain ⟨g,a,c,b,ps,ws,rfl,_⟩:=h;rfl
  · obtain ⟨g,a,r,b,ps,xs,rfl,G,k⟩:=h
    have nd:=scLawCut.nd
    refine ⟨_,(pss_cons (ps_set (i:=1) nd rfl (Or.inl rfl) (pe_lst pa_nil))
      (pss_cons (ps_set (i:=2) nd rfl (Or.inl rfl) pe_int)
      (pss_cons (ps_for PassesOwn.never rfl (pi_list (ixt (pv 0) pe_int)) (pg_name (i:=3) nd rfl (Or.inl rfl))
        (pss_cons (ps_expr (pe_bm PySem.F.plainAttrs_list PySem.F.slot_list_append PySem.F.type_list_append mt_append (pv 1) (pa_cons (pe_slice sl_list (ixt (pv 0) pe_int) (po_some (pv 2)) (po_some (pe_op op_add (pv 2) (pv 3)))) pa_nil)))
        (pss_one (ps_set (i:=2) nd rfl (Or.inl rfl) (pe_op op_add (pv 2) (pv 3))))))
      (pss_one (ps_ret (pv 1)))))),?_⟩
    have l4:=G.ok.l4
    have hrow:=G.hw
    refine ⟨sz (by decide),fun p hp=>?_⟩
    have s1:Same H (upd H p (.lst [])):=same_upd hp
    have G1:=G.keep s1
    refine ⟨_,rfl,_,_,_,_,rfl,rfl,SqT.of G1.tp,rfl,a,rfl,⟨_,SqL.of G1.hp⟩,for_list (K:=K) (a:=a) (xs:=natV ps) (fun i σ H2=>∃ (qs:List Addr) (v4:Option V),σ=[some (.ref g),some (.ref p),some (.int (((ps.take i).sum:Nat):Int)),v4]∧
      Same H H2∧H2 p=some (.lst (qs.map V.ref))∧qs.length=i∧RowsAt H2 qs ((Ma.cuts ps xs).take i)) ⟨[],none,rfl,s1,upd_same,rfl,.nil⟩ (fun i σ H2 _ h=>by obtain ⟨_,_,_,s2,_⟩:=h;exact SqL.of (s2 _ _ G.hp)) ?_ ?_⟩
    · rintro i x σ H2 hx ⟨qs,v4,rfl,s2,hp2,hl2,rows⟩
      have hi:i<ps.length:=by
        have:=(List.getElem?_eq_some_iff.mp hx).1
        simpa [natV] using this
      have e:ps[i]?=some ps[i]:=by simp [hi]
      have ex:x=V.int ((ps[i]:Nat):Int):=by
        have:(natV ps)[i]?=some (V.int ((ps[i]:Nat):Int)):=by simp [natV,hi]
        rw [this] at hx
        exact (Option.some.inj hx).symm
      subst ex
      have pr:p≠r:=Ne.symm (ne_of_none hrow hp)
      refine ⟨_,rfl,.inl ⟨rfl,_,SqL.of hp2⟩,_,rfl,_,_,_,_,rfl,rfl,SqT.of (s2 _ _ G.tp),rfl,_,rfl,_,rfl,_,rfl,_,rfl,_,_,rfl,rfl,_,rfl,r,_,rfl,SqL.of (s2 _ _ hrow),fun q hq=>?_⟩
      have pq:p≠q:=ne_of_none hp2 hq
      refine ⟨p,_,_,rfl,rfl,(by rw [upd_ne pq];exact hp2),szl (by rw [List.length_map];lia),?_⟩
      refine ⟨_,rfl,_,rfl,_,_,rfl,rfl,qs++[q],some (.int ((ps[i]:Nat):Int)),?_,same_upd2 (same_upd2 s2 (s2.free hq)) hp,?_,by simp [hl2],?_⟩
      · rw [List.take_add_one,e,List.sum_append]
        show [some (V.ref g),some (.ref p),some (.int (((ps.take i).sum:Nat)+((ps[i]:Nat):Int))),_]=_
        simp
      · rw [upd_same];simp
      · rw [List.take_add_one,Ma.cuts_get ps xs i ps[i] e]
        refine Paired.snoc (RowsAt.keepOn (H:=H2) (fun bb hb row z=>?_) rows) ?_
        · have bp:bb≠p:=ne_of z hp2 (by
            intro e
            have e':row.map V.int=qs.map V.ref:=by injection e
            have m1:V.ref bb∈row.map V.int:=by rw [e'];exact List.mem_map.mpr ⟨bb,hb,rfl⟩
            obtain ⟨_,_,m2⟩:=List.mem_map.mp m1
            cases m2)
          rw [upd_ne bp,upd_ne (ne_of_none z hq)]
          exact z
        · rw [upd_ne pq.symm,upd_same,cut_mid,← List.map_drop,← List.map_take]
    · rintro σ H2 ⟨qs,v4,rfl,s2,hp2,hl2,rows⟩
      refine ⟨_,rfl,k p qs H2 s2 hp hp2 ?_⟩
      have e:(natV ps).length=(Ma.cuts ps xs).length:=by rw [Ma.cuts_len];simp [natV]
      rw [e,List.take_length] at rows
      exact rows
end
end Hv
namespace Me
theorem tot_even (b:Nat) (rows:List (List Int)):∀ ks:List Int,tot (evenL b rows ks)=(ks.map fun k=>prodW b rows k).sum
  | []=>rfl
  | k::r=>by
    have ih:=tot_even b rows r
    have h0:=prodW_nn b rows k
    unfold evenL at ih⊢
    by_cases h:0<prodW b rows k
    · rw [List.filter_cons_of_pos (by simpa using h),List.map_cons]
      simp only [tot,List.map_cons,List.sum_cons] at ih⊢
      rw [ih]
    · rw [List.filter_cons_of_neg (by simpa using h),List.map_cons,List.sum_cons,ih]
      lia
end Me
namespace Hv
open PySem L2
theorem ref_at' {qs:List Addr} {i:Nat} {x:V} (h:(qs.map V.ref)[i]?=some x):∃ q,qs[i]?=some q∧x=.ref q:=by
  rw [List.getElem?_map] at h
  cases e:qs[i]? with
  | none=>rw [e] at h;cases h
  | some d=>rw [e] at h;exact ⟨d,rfl,(Option.some.inj h).symm⟩
section
variable {P:Program} {w:World} {K:PySem.W.Frag} {mg:Str→Option Value} {base:Heap}
theorem scLawEven:FnScope ["frame","rows","total","here","ways","row"] ["frame"] (defScope sLawEven):=⟨rfl,rfl,rfl,by decide +kernel,rfl,by decide +kernel,by decide +kernel⟩
theorem ok_evenl {f:Addr} {fd:FuncData} (F:Fun K "_law_even" "_law_even" sLawEven f fd) (T:Txt mg) (d_law_part:Def P w K mg base 1 "_law_part" ["base","weights"] spWays) (d_law_cut:Def P w K mg base 1 "_law_cut" ["frame"] spWeights):FnOk P w K mg base CX0 2 f fd ["frame"] spCountEven:=by
  refine F.ok scLawEven (fun vs H Q E h=>?_) (fun cdv A outer s H vs Q E hr h=>?_)
  · obtain ⟨g,a,c,b,ps,ws,rfl,_⟩:=h;rfl
  · obtain ⟨g,a,c,b,ps,ws,rfl,G,k⟩:=h
    have nd:=scLawEven.nd
    have hu:=hu_of hr
    refine ⟨_,(pss_cons (ps_cmp1 (defScope sLawEven) ["frame","rows","total","here","ways","row"] ["frame"] [0] (i:=1) nd rfl (Or.inl rfl) rfl (pi_list (pe_fn d_law_cut hr (by rfl) (pa_cons (pv 0) pa_nil))) (fun cl C s H fp=>pf_nil) (fun cl C s H fp=>(pe_fn d_law_part hr (by rfl) (pa_cons (ixtK K rfl (pv 1) pe_int) (pa_cons (pv 0) pa_nil)))) (by decide +kernel) (by rfl))
      (pss_cons (ps_set (i:=2) nd rfl (Or.inl rfl) pe_int)
      (pss_cons (ps_for PassesOwn.never rfl (pi_dict (ixl (pv 1) pe_int)) (pg_name (i:=3) nd rfl (Or.inl rfl))
        (pss_cons (ps_set (i:=4) nd rfl (Or.inl rfl) (pe_dget hu (ixl (pv 1) pe_int) (pv 3) (fun _ _=>rfl)))
        (pss_cons (ps_for PassesOwn.never rfl (pi_list (pe_slice sl_list (pv 1) (po_some pe_int) po_none)) (pg_name (i:=5) nd rfl (Or.inl rfl))
          (pss_one (ps_set (i:=4) nd rfl (Or.inl rfl) (pe_op op_mul (pv 4) (pe_dget2 hu (pv 5) (pv 3) pe_int ⟨rfl,rfl,rfl,rfl⟩)))))
        (pss_one (ps_set (i:=2) nd rfl (Or.inl rfl) (pe_op op_add (pv 2) (pv 4)))))))
      (pss_thaw (pss_one (ps_ret (pv 2))))))),?_⟩
    have ok:=G.ok
    have b0:0<b:=by have:=ok.b2;lia
    have l4:=ok.l4
    have l2:=ok.l2
    refine ⟨_,rfl,g,a,c,b,ps,ws,rfl,G,fun p0 qs0 H1 s1 hp0 hp1 rows=>?_⟩
    have hql:qs0.length=ps.length:=by
      have e:qs0.length=(Ma.cuts ps ws).length:=rows.length
      rw [e,Ma.cuts_len]
    refine ⟨p0,rfl,⟨_,SqL.of hp1⟩,comp_list (K:=K) (a:=p0) (xs:=qs0.map V.ref) (fun i ys H'=>∃ ts,ys=ts.map V.ref∧ts.length=i∧Same H1 H'∧Paired (fun q row=>H' q=some (.dK (intsD (Me.waysW b row)))) ts ((Ma.cuts ps ws).take i))
      ⟨[],rfl,rfl,Same.refl _,.nil⟩ (fun i ys H' _ h=>by obtain ⟨_,_,_,s',_⟩:=h;exact SqL.of (s' _ _ hp1)) ?_ ?_⟩
    · rintro i x ys H' hx ⟨ts,rfl,htl,s',wa⟩
      have hil:i<qs0.length:=by have:=(List.getElem?_eq_some_iff.mp hx).1;simpa using this
      obtain ⟨q,hq,rfl⟩:=ref_at' hx
      obtain ⟨row,hj,hrow⟩:=rows_get rows hq
      have hw:=fun y hy=>ok.wr y (Ma.cuts_mem (List.mem_of_getElem? hj) y hy)
      have hl6:=Ma.cuts_short (fun p hp=>(ok.pr p hp).2) (List.mem_of_getElem? hj)
      refine ⟨szl (by rw [List.length_map];lia),_,rfl,_,_,_,_,rfl,rfl,SqT.of ((G.keep s1).keep s').tp,rfl,_,rfl,b,q,row,rfl,s' _ _ hrow,G.ok.b16,hw,hl6,fun p' H3 np s3 hp3=>⟨ts++[p'],by simp,by simp [htl],s'.trans s3,?_⟩⟩
      rw [List.take_add_one,hj]
      exact Paired.snoc (L2.Paired.mapP wa fun q1 row1 e1=>s3 _ _ e1) hp3
    rintro ys H2 ⟨qs,rfl,htl,s2,wa⟩ p hp
    have e:(qs0.map V.ref).length=(Ma.cuts ps ws).length:=by rw [List.length_map,Ma.cuts_len];exact hql
    rw [e,List.take_length] at wa
    have sp:=same_upd (o:=.lst (qs.map V.ref)) hp
    have up:(upd H2 p (.lst (qs.map V.ref))) p=some (.lst (qs.map V.ref)):=upd_same
    have S2:=s1.trans (s2.trans sp)
    have wa:=L2.Paired.mapP wa fun q1 row1 e1=>sp _ _ e1
    generalize upd H2 p (.lst (qs.map V.ref))=H3 at sp up S2 wa⊢
    have hqn:qs.length=(Ma.cuts ps ws).length:=wa.length
    obtain ⟨row,hrow⟩:∃ row,(Ma.cuts ps ws)[0]?=some row:=⟨(Ma.cuts ps ws)[0]'(by rw [Ma.cuts_len];lia),by simp⟩
    obtain ⟨q,hq⟩:∃ q,qs[0]?=some q:=⟨qs[0]'(by rw [hqn,Ma.cuts_len];lia),by simp⟩
    obtain ⟨row',hrow',q3⟩:=rows_get wa hq
    have er:row'=row:=by rw [hrow] at hrow';exact (Option.some.inj hrow').symm
    subst er
    have hw0:=fun y hy=>ok.wr y (Ma.cuts_mem (List.mem_of_getElem? hrow) y hy)
    have hl0:=Ma.cuts_short (fun p hp=>(ok.pr p hp).2) (List.mem_of_getElem? hrow)
    have wok:=Me.ways_ok' (b:=b) hw0 G.ok.b16
    have nd0:=wok.nd
    have hqp:q≠p:=ne_of q3 up (by intro z;cases z)
    have at0:atI (qs.map V.ref) 0=some (.ref q):=atI_nat (j:=0) (by rw [List.getElem?_map,hq];rfl)
    have eT:=Mx.even_all b0 (by lia) ok.wl hrow
    rw [Me.tot_even] at eT
    generalize eg:Me.waysW b row'=g0 at q3 nd0 eT
    refine ⟨_,rfl,_,_,_,_,rfl,rfl,SqL.of up,at0,q,intsD g0,rfl,q3,fun o=>for_dict (fun i σ H'=>∃ v3 v4 v5,σ=[some (.ref g),some (.ref p),some (.int (((Me.keys g0).take i).map fun k=>Me.prodW b (Ma.cuts ps ws) k).sum),v3,v4,v5]∧H' q=some (.frz o (.dK (intsD g0)))∧(∀ x ob,x≠q→H3 x=some ob→H' x=some ob))
      ⟨none,none,none,rfl,upd_same,fun x ob hx e=>by rw [upd_ne hx];exact e⟩ (fun i σ H' _ h=>by obtain ⟨_,_,_,_,z,_⟩:=h;exact z) ?_ ?_⟩
    · rintro i kk v σ H' hk ⟨v3,v4,v5,rfl,fq,kp⟩
      obtain ⟨pr,hpr,rfl,rfl⟩:=ints_at hk
      have hki:(Me.keys g0)[i]?=some pr.1:=by rw [Me.keys,List.getElem?_map,hpr];rfl
      have p':=kp p _ hqp.symm up
      have wr:Paired (fun q1 row1=>Rd H' q1 (.dK (intsD (Me.waysW b row1)))) qs (Ma.cuts ps ws):=L2.Paired.mapP wa fun q1 row1 e1=>by
        by_cases e:q1=q
        · subst e
          have eg:intsD (Me.waysW b row1)=intsD g0:=by rw [e1] at q3;injection q3 with q3;injection q3
          exact .inr ⟨o,by rw [eg];exact fq⟩
        · exact .inl (kp q1 _ e e1)
      have d0:DGet H' q (.int pr.1) (some (.int pr.2)):=by
        have z:=dget_ints (k:=pr.1) (.inr ⟨o,fq⟩)
        rw [Me.look_mem nd0 (List.mem_of_getElem? hpr)] at z
        exact z
      have hfst:pr.2=Me.prodW b ((Ma.cuts ps ws).take 1) pr.1:=by
        have z:=Me.prodW_take (b:=b) (t:=pr.1) hrow
        rw [z,eg,Me.look_mem nd0 (List.mem_of_getElem? hpr)]
        simp [Me.prodW]
      refine ⟨_,rfl,_,_,_,_,rfl,rfl,SqL.of p',at0,_,rfl,q,.int pr.2,rfl,d0,?_⟩
      refine ⟨_,rfl,_,rfl,p,_,rfl,SqL.of p',fun l hl=>?_⟩
      have ecut:cutV (qs.map V.ref) (some 1) none=(qs.drop 1).map V.ref:=by
        have:=cut_from (xs:=qs.map V.ref) (k:=1)
        rw [List.map_drop]
        exact this
      rw [ecut]
      have s5:=same_upd (o:=.lst ((qs.drop 1).map V.ref)) hl
      have u5:(upd H' l (.lst ((qs.drop 1).map V.ref))) l=_:=upd_same
      have nql:q≠l:=fun z=>by rw [z,hl] at fq;cases fq
      generalize upd H' l (.lst ((qs.drop 1).map V.ref))=H5 at s5 u5⊢
      refine ⟨l,rfl,⟨_,SqL.of u5⟩,for_list (K:=K) (a:=l) (xs:=(qs.drop 1).map V.ref) (fun j σ H''=>∃ v5,σ=[some (.ref g),some (.ref p),some (.int (((Me.keys g0).take i).map fun k=>Me.prodW b (Ma.cuts ps ws) k).sum),some (.int pr.1),some (.int (Me.prodW b ((Ma.cuts ps ws).take (j+1)) pr.1)),v5]∧H5=H'')
        ⟨v5,by rw [← hfst];rfl,rfl⟩ (fun j σ H'' _ h=>by obtain ⟨_,_,e⟩:=h;rw [← e];exact SqL.of u5) ?_ ?_⟩
      · rintro j x σ H'' hx ⟨v5,rfl,rfl⟩
        obtain ⟨q1,hq1,rfl⟩:=ref_at' hx
        rw [List.getElem?_drop,Nat.add_comm] at hq1
        obtain ⟨row1,hj,hg1⟩:=rows_get wr hq1
        have hl1:=Ma.cuts_short (fun p hp=>(ok.pr p hp).2) (List.mem_of_getElem? hj)
        obtain ⟨v0,v1⟩:=Me.ways_val (b:=b) G.ok.b16 hl1 pr.1
        have hg5:Rd H5 q1 (.dK (intsD (Me.waysW b row1))):=by
          rcases hg1 with h | ⟨o',h⟩
          · exact .inl (s5 _ _ h)
          · exact .inr ⟨o',s5 _ _ h⟩
        have cm:CMul (Me.prodW b ((Ma.cuts ps ws).take (j+1)) pr.1) ((Me.look (Me.waysW b row1) pr.1).getD 0):=.inr ⟨by lia,by lia⟩
        refine ⟨_,rfl,_,rfl,q1,rfl,.inl ⟨_,hg5⟩,_,rfl,_,dget_ints hg5,Me.prodW b ((Ma.cuts ps ws).take (j+1)) pr.1,(Me.look (Me.waysW b row1) pr.1).getD 0,rfl,getD_int _,cm,some (.ref q1),?_,rfl⟩
        rw [Me.prodW_take hj]
        rfl
      rintro σ H'' ⟨v5,rfl,rfl⟩
      have e:((qs.drop 1).map V.ref).length+1=(Ma.cuts ps ws).length:=by
        rw [List.length_map,List.length_drop,hqn,Ma.cuts_len]
        lia
      rw [e,List.take_length]
      refine ⟨_,rfl,_,rfl,_,_,rfl,rfl,some (.int pr.1),some (.int (Me.prodW b (Ma.cuts ps ws) pr.1)),v5,?_,s5 _ _ fq,fun x ob hx e=>s5 _ _ (kp x ob hx e)⟩
      rw [List.take_add_one,hki,List.map_append,List.sum_append]
      simp
    · rintro σ H' ⟨v3,v4,v5,rfl,fq,kp⟩
      have el:(intsD g0).length=(Me.keys g0).length:=by rw [intsD,Me.keys,List.length_map,List.length_map]
      rw [el,List.take_length,eT]
      refine ⟨q,o,intsD g0,fq,(fun o' u z=>?_),_,rfl,k _ (fun x ob e=>?_)⟩
      · have z':H q=some (.frz o' u):=z
        have:=S2 _ _ z'
        rw [q3] at this;cases this
      · by_cases hx:x=q
        · have:=S2 _ _ e
          rw [hx] at this
          rw [hx,upd_same,← this,q3]
        · rw [upd_ne hx];exact kp x ob hx (S2 _ _ e)
end
end Hv
namespace Hv
open PySem L2
theorem near_winG {fs:List (Int→Int)} {d i e:Nat} {low high:Int} (up:∀ f∈fs,∀ t,high<t→f t=0) {wide:Nat} (hw:(wide:Int)=high - low+1) (hi:i<wide) (he:(e:Int)=if (wide:Int)<(i:Int)+d+1 then (wide:Int) else (i:Int)+d+1) :
    Mq.pr fs (low+i) (e - i) - Mq.pr fs (low+i+1) (e - (i+1))=Mq.gat fs d (low+i):=by
  unfold Mq.gat
  by_cases hc:(wide:Int)<(i:Int)+d+1
  · rw [if_pos hc] at he
    rw [Mq.pr_congr (fs:=fs) (a:=low+i) (b:=low+i) (n:=e - i) (m:=d+1) fun f hf=>Mq.sm_end (h:=high) (up f hf) (by lia) (by push_cast;lia),
      Mq.pr_congr (fs:=fs) (a:=low+i+1) (b:=low+i+1) (n:=e - (i+1)) (m:=d) fun f hf=>Mq.sm_end (h:=high) (up f hf) (by lia) (by lia)]
  · rw [if_neg hc] at he
    have e1:e - i=d+1:=by lia
    have e2:e - (i+1)=d:=by lia
    rw [e1,e2]
theorem RunsAt.keepOn {H H':Hp} {lo:Int} {n:Nat} {u:Addr} {ts:List Addr} (hu:H u=some (.lst (ts.map V.ref))) (s:∀ x o,x≠u→H x=some o→H' x=some o) {rs:List Addr} {rows:List (List (Int×Int))} (h:RunsAt H lo n rs rows):RunsAt H' lo n rs rows:=L2.Paired.mapP h fun q row e=>by
  refine s q _ (fun z=>?_) e
  subst z
  rw [hu] at e
  injection e with e
  injection e with e
  have h0:=runs_at (f:=fun t=>Me.gv row t) (lo:=lo) (n:=n) (k:=0) (by lia)
  rw [← e,List.getElem?_map] at h0
  cases e0:ts[0]? with
  | none=>rw [e0] at h0;cases h0
  | some d=>rw [e0] at h0;cases h0
section
variable {P:Program} {w:World} {K:PySem.W.Frag} {mg:Str→Option Value} {base:Heap}
theorem scNear:FnScope ["frame","d","rows","low","size","added","row","some","at","total","end","both"] ["frame","d"] (defScope sNear):=⟨rfl,rfl,rfl,by decide +kernel,rfl,by decide +kernel,by decide +kernel⟩
theorem ok_nearl {f:Addr} {fd:FuncData} (F:Fun K "_law_near" "_law_near" sNear f fd) (T:Txt mg) (d_law_part:Def P w K mg base 1 "_law_part" ["base","weights"] spWays) (d_law_cut:Def P w K mg base 1 "_law_cut" ["frame"] spWeights):FnOk P w K mg base CX0 2 f fd ["frame","d"] spCountNear:=by
  refine F.ok scNear (fun vs H Q E h=>?_) (fun cdv A outer s H vs Q E hr h=>?_)
  · obtain ⟨g,a,c,b,ps,ws,d,rfl,_⟩:=h;rfl
  · obtain ⟨g,a,c,b,ps,ws,d,rfl,G,k⟩:=h
    have nd:=scNear.nd
    have hu:=hu_of hr
    refine ⟨_,(pss_cons (ps_cmp1 (defScope sNear) ["frame","d","rows","low","size","added","row","some","at","total","end","both"] ["frame"] [0] (i:=2) nd rfl (Or.inl rfl) rfl (pi_list (pe_fn d_law_cut hr (by rfl) (pa_cons (pv 0) pa_nil))) (fun cl C s H fp=>pf_nil) (fun cl C s H fp=>(pe_fn d_law_part hr (by rfl) (pa_cons (ixtK K rfl (pv 1) pe_int) (pa_cons (pv 0) pa_nil)))) (by decide +kernel) (by rfl))
      (pss_cons (ps_set (i:=3) nd rfl (Or.inl rfl) (pe_callB (call_minL rfl) (by rfl) T.min boot_min (pa_cons (pe_cmp1 (defScope sNear) ["frame","d","rows","low","size","added","row","some","at","total","end","both"] [] [] rfl (pi_list (pv 2)) (fun cl C s H fp=>pf_nil) (fun cl C s H fp=>(pe_callB (call_minD rfl) (by rfl) T.min boot_min (pa_cons (pv 0) pa_nil))) (by decide +kernel)) pa_nil)))
      (pss_cons (ps_set (i:=4) nd rfl (Or.inl rfl) (pe_op op_add (pe_op op_sub (pe_callB (call_maxL rfl) (by rfl) T.max boot_max (pa_cons (pe_cmp1 (defScope sNear) ["frame","d","rows","low","size","added","row","some","at","total","end","both"] [] [] rfl (pi_list (pv 2)) (fun cl C s H fp=>pf_nil) (fun cl C s H fp=>(pe_callB (call_maxD rfl) (by rfl) T.max boot_max (pa_cons (pv 0) pa_nil))) (by decide +kernel)) pa_nil)) (pv 3)) pe_int))
      (pss_cons (ps_set (i:=5) nd rfl (Or.inl rfl) (pe_lst pa_nil))
      (pss_cons (ps_for PassesOwn.never rfl (pi_list (pv 2)) (pg_name (i:=6) nd rfl (Or.inl rfl))
        (pss_cons (ps_set (i:=7) nd rfl (Or.inl rfl) (pe_lst (pa_cons pe_int pa_nil)))
        (pss_cons (ps_for PassesOwn.never rfl (pi_range1 (by rfl) T.range (pa_cons (pv 4) pa_nil)) (pg_name (i:=8) nd rfl (Or.inl rfl))
          (pss_one (ps_expr (pe_bm PySem.F.plainAttrs_list PySem.F.slot_list_append PySem.F.type_list_append mt_append (pv 7) (pa_cons (pe_op op_add (ixl (pv 7) (pe_un un_neg pe_int)) (pe_dget2 hu (pv 6) (pe_op op_add (pv 3) (pv 8)) pe_int ⟨rfl,rfl,rfl,rfl⟩)) pa_nil)))))
        (pss_one (ps_expr (pe_bm PySem.F.plainAttrs_list PySem.F.slot_list_append PySem.F.type_list_append mt_append (pv 5) (pa_cons (pv 7) pa_nil)))))))
      (pss_cons (ps_set (i:=9) nd rfl (Or.inl rfl) pe_int)
      (pss_cons (ps_for PassesOwn.never rfl (pi_range1 (by rfl) T.range (pa_cons (pv 4) pa_nil)) (pg_name (i:=8) nd rfl (Or.inl rfl))
        (pss_cons (ps_set (i:=10) nd rfl (Or.inl rfl) (pe_callB (call_min2 rfl) (by rfl) T.min boot_min (pa_cons (pe_op op_add (pe_op op_add (pv 8) (pv 1)) pe_int) (pa_cons (pv 4) pa_nil))))
        (pss_cons (ps_set (i:=11) nd rfl (Or.inl rfl) (pe_lst (pa_cons pe_int (pa_cons pe_int pa_nil))))
        (pss_cons (ps_for PassesOwn.never rfl (pi_list (pv 5)) (pg_name (i:=7) nd rfl (Or.inl rfl))
          (pss_cons (ps_asg (pe_op op_mul (ixl (pv 11) pe_int) (pe_op op_sub (ixl (pv 7) (pv 10)) (ixl (pv 7) (pv 8)))) (pg_sub (pv 11) pe_int set_list))
          (pss_one (ps_asg (pe_op op_mul (ixl (pv 11) pe_int) (pe_op op_sub (ixl (pv 7) (pv 10)) (ixl (pv 7) (pe_op op_add (pv 8) pe_int)))) (pg_sub (pv 11) pe_int set_list)))))
        (pss_one (ps_set (i:=9) nd rfl (Or.inl rfl) (pe_op op_sub (pe_op op_add (pv 9) (ixl (pv 11) pe_int)) (ixl (pv 11) pe_int))))))))
      (pss_one (ps_ret (pv 9)))))))))),?_⟩
    have ok:=G.ok
    have b0:0<b:=by have:=ok.b2;lia
    have l4:=ok.l4
    have l2:=ok.l2
    refine ⟨_,rfl,g,a,c,b,ps,ws,rfl,G,fun p0 qs0 H1 s1 hp0 hp1 rows0=>?_⟩
    have hql0:qs0.length=ps.length:=by
      have e:qs0.length=(Ma.cuts ps ws).length:=rows0.length
      rw [e,Ma.cuts_len]
    refine ⟨p0,rfl,⟨_,SqL.of hp1⟩,comp_list (K:=K) (a:=p0) (xs:=qs0.map V.ref) (fun i ys H'=>∃ ts,ys=ts.map V.ref∧ts.length=i∧Same H1 H'∧Paired (fun q row=>H' q=some (.dK (intsD (Me.waysW b row)))) ts ((Ma.cuts ps ws).take i))
      ⟨[],rfl,rfl,Same.refl _,.nil⟩ (fun i ys H' _ h=>by obtain ⟨_,_,_,s',_⟩:=h;exact SqL.of (s' _ _ hp1)) ?_ ?_⟩
    · rintro i x ys H' hx ⟨ts,rfl,htl,s',wa⟩
      have hil:i<qs0.length:=by have:=(List.getElem?_eq_some_iff.mp hx).1;simpa using this
      obtain ⟨q,hq,rfl⟩:=ref_at' hx
      obtain ⟨row,hj,hrow⟩:=rows_get rows0 hq
      have hw:=fun y hy=>ok.wr y (Ma.cuts_mem (List.mem_of_getElem? hj) y hy)
      have hl6:=Ma.cuts_short (fun p hp=>(ok.pr p hp).2) (List.mem_of_getElem? hj)
      refine ⟨szl (by rw [List.length_map];lia),_,rfl,_,_,_,_,rfl,rfl,SqT.of ((G.keep s1).keep s').tp,rfl,_,rfl,b,q,row,rfl,s' _ _ hrow,G.ok.b16,hw,hl6,fun p' H3 np s3 hp3=>⟨ts++[p'],by simp,by simp [htl],s'.trans s3,?_⟩⟩
      rw [List.take_add_one,hj]
      exact Paired.snoc (L2.Paired.mapP wa fun q1 row1 e1=>s3 _ _ e1) hp3
    rintro ys H2 ⟨qs,rfl,htl,s2,wa⟩ p hp
    have e:(qs0.map V.ref).length=(Ma.cuts ps ws).length:=by rw [List.length_map,Ma.cuts_len];exact hql0
    rw [e,List.take_length] at wa
    have sp:=same_upd (o:=.lst (qs.map V.ref)) hp
    have up:(upd H2 p (.lst (qs.map V.ref))) p=some (.lst (qs.map V.ref)):=upd_same
    have S2:=s1.trans (s2.trans sp)
    have wa:=L2.Paired.mapP wa fun q1 row1 e1=>sp _ _ e1
    generalize upd H2 p (.lst (qs.map V.ref))=H4 at sp up S2 wa⊢
    obtain ⟨rows,wg,pg⟩:=ways_split (H:=H4) (b:=b) (qs:=qs) (rows:=Ma.cuts ps ws) (L2.Paired.mapP wa fun q1 row1 e1=>⟨_,e1,List.Perm.refl _⟩)
    have gl:rows.length=ps.length:=by rw [pg.length,Ma.cuts_len]
    have hrs:∀ g∈rows,Me.DOk g:=fun g hg=>by
      obtain ⟨row,hrow,perm⟩:=paired_in pg g hg
      exact Mx.ways_dok b0 ok.b16 (fun y hy=>ok.wr y (Ma.cuts_mem hrow y hy)) (Ma.cuts_short (fun p hp=>(ok.pr p hp).2) hrow) perm
    rw [← Mx.near_all b0 (by lia) ok.wl pg hrs d] at k
    have hql:qs.length=rows.length:=wg.length
    clear wa hql0 rows0 htl e
    -- the least sum
    refine ⟨_,rfl,p,rfl,⟨_,SqL.of up⟩,comp_list (K:=K) (a:=p) (xs:=qs.map V.ref) (fun i ys H2=>ys=(Me.losG (rows.take i)).map V.int∧H4=H2) ⟨rfl,rfl⟩ (fun i ys H2 _ h=>by rw [← h.2];exact SqL.of up) ?_ ?_⟩
    · rintro i x ys H2 hx ⟨rfl,rfl⟩
      obtain ⟨q,hq,rfl⟩:=ref_at' hx
      have hil:i<qs.length:=(List.getElem?_eq_some_iff.mp hq).1
      obtain ⟨gg,hj,hg⟩:=pairG wg hq
      have kl:=(hrs gg (List.mem_of_getElem? hj)).ne
      refine ⟨szl (by simp [Me.losG];lia),_,rfl,q,intsD gg,Me.keys gg,rfl,.inl hg,by simp [intsD,Me.keys],kl,?_,rfl⟩
      rw [List.take_add_one,hj]
      simp [Me.losG]
    rintro ys H5 ⟨rfl,rfl⟩ l1 h1
    rw [List.length_map,hql,List.take_length]
    have s5:=same_upd (o:=.lst ((Me.losG rows).map V.int)) h1
    have u5:upd H4 l1 (.lst ((Me.losG rows).map V.int)) l1=some (.lst ((Me.losG rows).map V.int)):=upd_same
    generalize upd H4 l1 (.lst ((Me.losG rows).map V.int))=H5 at s5 u5⊢
    have nl:0<(Me.losG rows).length:=by rw [Me.losG,List.length_map];lia
    have nh:0<(Me.hisG rows).length:=by rw [Me.hisG,List.length_map];lia
    refine ⟨l1,Me.losG rows,rfl,SqL.of u5,nl,?_⟩
    have up5:=s5 _ _ up
    have wg5:=WaysG.keep wg s5
    -- the greatest sum
    refine ⟨_,rfl,p,rfl,⟨_,SqL.of up5⟩,comp_list (K:=K) (a:=p) (xs:=qs.map V.ref) (fun i ys H2=>ys=(Me.hisG (rows.take i)).map V.int∧H5=H2) ⟨rfl,rfl⟩ (fun i ys H2 _ h=>by rw [← h.2];exact SqL.of up5) ?_ ?_⟩
    · rintro i x ys H2 hx ⟨rfl,rfl⟩
      obtain ⟨q,hq,rfl⟩:=ref_at' hx
      have hil:i<qs.length:=(List.getElem?_eq_some_iff.mp hq).1
      obtain ⟨gg,hj,hg⟩:=pairG wg5 hq
      have kl:=(hrs gg (List.mem_of_getElem? hj)).ne
      refine ⟨szl (by simp [Me.hisG];lia),_,rfl,q,intsD gg,Me.keys gg,rfl,.inl hg,by simp [intsD,Me.keys],kl,?_,rfl⟩
      rw [List.take_add_one,hj]
      simp [Me.hisG]
    rintro ys H6 ⟨rfl,rfl⟩ l2' h2
    rw [List.length_map,hql,List.take_length]
    have s6:=same_upd (o:=.lst ((Me.hisG rows).map V.int)) h2
    have u6:upd H5 l2' (.lst ((Me.hisG rows).map V.int)) l2'=some (.lst ((Me.hisG rows).map V.int)):=upd_same
    generalize upd H5 l2' (.lst ((Me.hisG rows).map V.int))=H8 at s6 u6⊢
    refine ⟨l2',Me.hisG rows,rfl,SqL.of u6,nh,_,rfl,_,_,rfl,rfl,_,_,rfl,rfl,?_⟩
    have S8:=S2.trans (s5.trans s6)
    have up8:=s6 _ _ up5
    have wg8:=WaysG.keep wg5 s6
    have hup:∀ f∈Me.fG rows,∀ t,Ma.maxL (Me.hisG rows)<t→f t=0:=fun f hf t ht=>by
      obtain ⟨gg,hgg,rfl⟩:=List.mem_map.mp hf
      exact Me.gv_up (hrs gg hgg) (by
        have:=(Ma.maxL_spec _ nh).2 _ (List.mem_map.mpr ⟨gg,hgg,rfl⟩:Ma.maxL (Me.keys gg)∈Me.hisG rows)
        lia)
    have b1 : -810≤Ma.minL (Me.losG rows)∧Ma.minL (Me.losG rows)≤810:=by
      obtain ⟨gg,hgg,e⟩:=List.mem_map.mp (Ma.minL_spec _ nl).1
      have hm:=(Ma.minL_spec (Me.keys gg) (hrs gg hgg).ne).1
      have:=(hrs gg hgg).bd _ hm
      rw [← e]
      exact this
    have b2 : -810≤Ma.maxL (Me.hisG rows)∧Ma.maxL (Me.hisG rows)≤810:=by
      obtain ⟨gg,hgg,e⟩:=List.mem_map.mp (Ma.maxL_spec _ nh).1
      have hm:=(Ma.maxL_spec (Me.keys gg) (hrs gg hgg).ne).1
      have:=(hrs gg hgg).bd _ hm
      rw [← e]
      exact this
    have b3:Ma.minL (Me.losG rows)≤Ma.maxL (Me.hisG rows):=by
      obtain ⟨gg,hgg⟩:∃ gg,gg∈rows:=⟨rows[0]'(by lia),List.getElem_mem _⟩
      have h1:=(Ma.minL_spec _ nl).2 _ (List.mem_map.mpr ⟨gg,hgg,rfl⟩:Ma.minL (Me.keys gg)∈Me.losG rows)
      have h2:=(Ma.maxL_spec _ nh).2 _ (List.mem_map.mpr ⟨gg,hgg,rfl⟩:Ma.maxL (Me.keys gg)∈Me.hisG rows)
      have h3:=(Ma.minL_spec (Me.keys gg) (hrs gg hgg).ne).1
      have h4:=(Ma.maxL_spec (Me.keys gg) (hrs gg hgg).ne).2 _ h3
      lia
    have hnear:Me.nearG rows d=Mq.sm (Mq.gat (Me.fG rows) d) (Ma.minL (Me.losG rows)) (Ma.maxL (Me.hisG rows) - Ma.minL (Me.losG rows)+1).toNat:=rfl
    rw [hnear] at k
    dsimp only
    generalize Ma.minL (Me.losG rows)=low at k b1 b3⊢
    generalize Ma.maxL (Me.hisG rows)=high at k b2 b3 hup⊢
    obtain ⟨wide,hwide⟩:∃ wide:Nat,(wide:Int)=high - low+1:=⟨(high - low+1).toNat,by lia⟩
    have en2:(high - low+1).toNat=wide:=by lia
    rw [en2] at k
    rw [← hwide]
    -- up to each sum
    refine ⟨sz (by simp),fun u hu'=>?_⟩
    have s9:=same_upd (o:=.lst []) hu'
    refine ⟨_,rfl,p,rfl,⟨_,SqL.of (s9 _ _ up8)⟩,for_list (K:=K) (a:=p) (xs:=qs.map V.ref) (fun i σ H'=>∃ ts v6 v7 v8,σ=[some (.ref g),some (.int d),some (.ref p),some (.int low),some (.int (wide:Int)),some (.ref u),v6,v7,v8,none,none,none]∧Same H8 H'∧H' u=some (.lst (ts.map V.ref))∧ts.length=i∧RunsAt H' low wide ts (rows.take i))
      ⟨[],none,none,none,rfl,s9,upd_same,rfl,.nil⟩ (fun i σ H' _ h=>by obtain ⟨_,_,_,_,_,s',_⟩:=h;exact SqL.of (s' _ _ up8)) ?_ ?_⟩
    · rintro i x σ H' hx ⟨ts,v6,v7,v8,rfl,s',hut,htl,ra⟩
      obtain ⟨q,hq,rfl⟩:=ref_at' hx
      have hil:i<qs.length:=(List.getElem?_eq_some_iff.mp hq).1
      obtain ⟨gg,hj,hg⟩:=pairG wg8 hq
      refine ⟨sz (by simp),fun r hr'=>?_⟩
      have s10:=same_upd (o:=.lst [.int 0]) hr'
      refine ⟨_,rfl,_,rfl,by lia,by lia,for_range (n:=(wide:Int).toNat) (fun j σ G'=>∃ v8,σ=[some (.ref g),some (.int d),some (.ref p),some (.int low),some (.int (wide:Int)),some (.ref u),some (.ref q),some (.ref r),v8,none,none,none]∧Same H' G'∧G' r=some (.lst (runs (fun t=>Me.gv gg t) low j))) ⟨v8,rfl,s10,upd_same⟩ ?_ ?_⟩
      · rintro j σ G' hj' ⟨v8,rfl,sG,hG⟩
        have hgG:G' q=some (.dK (intsD gg)):=sG _ _ (s' _ _ hg)
        refine ⟨_,rfl,.inl ⟨rfl,_,SqL.of hG⟩,_,rfl,1,rfl,?_⟩
        have e1:=runs_last (fun t=>Me.gv gg t) low j
        refine r_ixl hG e1 ⟨_,rfl,q,rfl,.inl ⟨_,.inl hgG⟩,_,rfl,_,rfl,_,_,rfl,rfl,_,dget_ints (.inl hgG),_,_,rfl,getD_int _,⟨r,_,_,rfl,rfl,hG,szl (by rw [runs_len];lia),_,rfl,same_upd2 sG hr',?_⟩⟩
        rw [upd_same,runs_succ,Int.zero_add]
        rfl
      · rintro σ G' ⟨v8,rfl,sG,hG⟩
        rw [show (wide:Int).toNat=wide by lia] at hG
        have hutG:=sG _ _ hut
        refine ⟨_,rfl,.inl ⟨rfl,_,SqL.of hutG⟩,_,rfl,u,_,_,rfl,rfl,hutG,szl (by rw [List.length_map];lia),ts++[r],_,_,_,rfl,same_upd2 (s'.trans sG) hu',?_,by simp [htl],?_⟩
        · rw [upd_same];simp
        · rw [List.take_add_one,hj]
          have nru:r≠u:=fun z=>by rw [z] at hr';rw [hut] at hr';cases hr'
          exact Paired.snoc (RunsAt.keepOn hutG (fun x o hx e=>by rw [upd_ne hx];exact e) (RunsAt.keep sG ra)) (by rw [upd_ne nru];exact hG)
    rintro σ H9 ⟨ts,v6,v7,v8,rfl,s9',hut,htl,ra⟩
    rw [List.length_map,hql,List.take_length] at ra
    have htl':ts.length=rows.length:=ra.length
    refine ⟨_,rfl,_,rfl,by lia,by lia,for_range (n:=(wide:Int).toNat) (fun i σ G'=>∃ v7 v8 v10 v11,σ=[some (.ref g),some (.int d),some (.ref p),some (.int low),some (.int (wide:Int)),some (.ref u),v6,v7,v8,some (.int (Mq.sm (Mq.gat (Me.fG rows) d) low i)),v10,v11]∧Same H9 G') ⟨_,_,_,_,rfl,Same.refl _⟩ ?_ ?_⟩
    · rintro i σ G1 hi ⟨v7',v8',v10,v11,rfl,sG1⟩
      have hi':i<wide:=by lia
      rw [Int.zero_add]
      refine ⟨_,rfl,_,rfl,_,_,rfl,rfl,_,_,rfl,rfl,_,rfl,_,_,rfl,?_⟩
      dsimp only
      obtain ⟨e,he⟩:∃ e:Nat,(e:Int)=if (wide:Int)<(i:Int)+d+1 then (wide:Int) else (i:Int)+d+1:=⟨(if (wide:Int)<(i:Int)+d+1 then (wide:Int) else (i:Int)+d+1).toNat,by split <;> lia⟩
      rw [← he]
      have he1:i+1≤e∧e≤wide:=by split at he <;> lia
      have wn:=near_winG (fs:=Me.fG rows) (d:=d) (i:=i) (e:=e) (low:=low) (high:=high) hup hwide hi' he
      refine ⟨sz (by simp),fun bo hbo=>?_⟩
      have sb:=same_upd (o:=.lst ([1,1].map V.int)) hbo
      have ub:(upd G1 bo (.lst ([1,1].map V.int))) bo=_:=upd_same
      have eb:upd G1 bo (.lst [V.int 1,V.int 1])=upd G1 bo (.lst ([1,1].map V.int)):=rfl
      rw [eb]
      have nbu:∀ {y:Addr} {o:HO},G1 y=some o→y≠bo:=fun h z=>by rw [z,hbo] at h;cases h
      have hut1:=sG1 _ _ hut
      generalize upd G1 bo (.lst ([1,1].map V.int))=G2 at sb ub⊢
      refine ⟨_,rfl,u,rfl,⟨_,SqL.of (sb _ _ hut1)⟩,for_list (K:=K) (a:=u) (xs:=ts.map V.ref) (fun j σ G'=>∃ v7,σ=[some (.ref g),some (.int d),some (.ref p),some (.int low),some (.int (wide:Int)),some (.ref u),v6,v7,some (.int (i:Int)),some (.int (Mq.sm (Mq.gat (Me.fG rows) d) low i)),some (.int (e:Int)),some (.ref bo)]∧Same G1 G'∧G' bo=some (.lst ([Mq.pr (Me.fG (rows.take j)) (low+i) (e - i),Mq.pr (Me.fG (rows.take j)) (low+i+1) (e - (i+1))].map V.int)))
        ⟨_,rfl,sb,ub⟩ (fun j σ G' _ h=>by obtain ⟨_,_,e,_⟩:=h;exact SqL.of (e _ _ hut1)) ?_ ?_⟩
      · rintro j x σ G3 hx ⟨v7'',rfl,sG3,hb3⟩
        obtain ⟨q,hq,rfl⟩:=ref_at' hx
        obtain ⟨gg,hj,hrow⟩:=pairG ra hq
        have hrow1:=sG1 _ _ hrow
        have hrow3:=sG3 _ _ hrow1
        have hl:=hrs gg (List.mem_of_getElem? hj)
        have bd:=Me.sm_bd (f:=fun t=>Me.gv gg t) hl.val (low+i) (e - i)
        have bd2:=Me.sm_bd (f:=fun t=>Me.gv gg t) hl.val (low+i+1) (e - (i+1))
        refine ⟨_,rfl,_,_,_,_,rfl,rfl,SqL.of hb3,rfl,_,rfl,_,rfl,r_ixl hrow3 (atI_nat (runs_at (by lia))) ⟨_,rfl,_,rfl,r_ixl hrow3 (atI_nat (runs_at (by lia))) ⟨_,_,rfl,rfl,?_⟩⟩⟩
        dsimp only
        rw [sm_diff _ _ (show i≤e by lia)]
        refine ⟨_,_,rfl,rfl,.inr ⟨by lia,by lia⟩,_,rfl,bo,_,_,0,rfl,rfl,hb3,rfl,?_⟩
        have s4:Same G1 (upd G3 bo (.lst ([Mq.pr (Me.fG (rows.take j)) (low+i) (e - i)*Mq.sm (fun t=>Me.gv gg t) (low+i) (e - i),Mq.pr (Me.fG (rows.take j)) (low+i+1) (e - (i+1))].map V.int))):=fun y o h=>by rw [upd_ne (nbu h)];exact sG3 _ _ h
        have u4:(upd G3 bo (.lst ([Mq.pr (Me.fG (rows.take j)) (low+i) (e - i)*Mq.sm (fun t=>Me.gv gg t) (low+i) (e - i),Mq.pr (Me.fG (rows.take j)) (low+i+1) (e - (i+1))].map V.int))) bo=_:=upd_same
        have e4:upd G3 bo (.lst (List.set ([Mq.pr (Me.fG (rows.take j)) (low+i) (e - i),Mq.pr (Me.fG (rows.take j)) (low+i+1) (e - (i+1))].map V.int) 0 (V.int (Mq.pr (Me.fG (rows.take j)) (low+i) (e - i)*Mq.sm (fun t=>Me.gv gg t) (low+i) (e - i)))))=upd G3 bo (.lst ([Mq.pr (Me.fG (rows.take j)) (low+i) (e - i)*Mq.sm (fun t=>Me.gv gg t) (low+i) (e - i),Mq.pr (Me.fG (rows.take j)) (low+i+1) (e - (i+1))].map V.int)):=rfl
        rw [e4]
        generalize upd G3 bo (.lst ([Mq.pr (Me.fG (rows.take j)) (low+i) (e - i)*Mq.sm (fun t=>Me.gv gg t) (low+i) (e - i),Mq.pr (Me.fG (rows.take j)) (low+i+1) (e - (i+1))].map V.int))=G4 at s4 u4⊢
        have hrow4:=s4 _ _ hrow1
        refine ⟨_,rfl,_,_,_,_,rfl,rfl,SqL.of u4,rfl,_,rfl,_,rfl,r_ixl hrow4 (atI_nat (runs_at (by lia))) ⟨_,rfl,_,rfl,_,_,rfl,rfl,?_⟩⟩
        dsimp only
        rw [show (i:Int)+1=((i+1:Nat):Int) by push_cast;lia]
        refine r_ixl hrow4 (atI_nat (runs_at (by lia))) ⟨_,_,rfl,rfl,?_⟩
        dsimp only
        rw [sm_diff _ _ (show i+1≤e by lia)]
        have e3:low+((i+1:Nat):Int)=low+(i:Int)+1:=by push_cast;lia
        rw [e3]
        refine ⟨_,_,rfl,rfl,.inr ⟨by lia,by lia⟩,_,rfl,bo,_,_,1,rfl,rfl,u4,rfl,some (.ref q),rfl,fun y o h=>by rw [upd_ne (nbu h)];exact s4 _ _ h,?_⟩
        rw [upd_same,fws_take hj,fws_take hj]
        rfl
      · rintro σ G3 ⟨v7'',rfl,sG3,hb3⟩
        rw [List.length_map,htl',List.take_length] at hb3
        refine ⟨_,rfl,_,rfl,_,_,_,_,rfl,rfl,SqL.of hb3,rfl,_,_,rfl,rfl,_,rfl,_,_,_,_,rfl,rfl,SqL.of hb3,rfl,_,_,rfl,rfl,v7'',some (.int (i:Int)),some (.int (e:Int)),some (.ref bo),?_,sG1.trans sG3⟩
        have e:Mq.sm (Mq.gat (Me.fG rows) d) low (i+1)=Mq.sm (Mq.gat (Me.fG rows) d) low i+Mq.pr (Me.fG rows) (low+i) (e - i) - Mq.pr (Me.fG rows) (low+i+1) (e - (i+1)):=by
          rw [Mq.sm,← wn]
          lia
        rw [e]
        rfl
    · rintro σ G1 ⟨v7',v8',v10,v11,rfl,sG1⟩
      rw [show (wide:Int).toNat=wide by lia]
      exact ⟨_,rfl,k _ ((S8.trans s9').trans sG1)⟩
end
end Hv
namespace Hv
open PySem L2
theorem made_same {H1 H2:Hp} {kp dx:Addr} {o1 o2:HO} (nk:H1 kp=none) (nd:H1 dx=none) (k2:Kp [kp] (upd (upd H1 dx o1) kp o2) H2):Same H1 H2:=fun y o e=>by
  have n1:y≠kp:=fun z=>by rw [z,nk] at e;cases e
  have n2:y≠dx:=fun z=>by rw [z,nd] at e;cases e
  exact k2 y o (by rw [upd_ne n1,upd_ne n2];exact e) (by simpa using n1)
theorem made_free {H1:Hp} {kp dx y:Addr} {o1 o2:HO} (nk:H1 kp=none) (nd:H1 dx=none) (h:(upd (upd H1 dx o1) kp o2) y=none):H1 y=none:=by
  by_cases n1:y=kp
  · rw [n1];exact nk
  · by_cases n2:y=dx
    · rw [n2];exact nd
    · rw [upd_ne n1,upd_ne n2] at h;exact h
theorem mk_read {C f' a' c' kp dx:Addr} {b:Nat} {ps:List Nat} {ws:List Int} {H1:Hp} {R:Hp→Prop} {E:XK} (G1:FrAt H1 f' a' c' b ps ws) (nk:H1 kp=none) (nd:H1 dx=none)
    (k:∀ (sl:Addr) (x:AF) (H2:Hp),Same H1 H2→KpAt C H2 kp dx sl [x] b ps [ws]→H1 sl=none→H1 x.2.1=none→H1 x.2.2=none→R H2) :
    spInit C [.ref kp,.ref f'] (upd (upd H1 dx (.own kp)) kp (.ins C dx [])) (fun v H2=>v=.non∧R H2) E:=by
  have s1:Same H1 (upd (upd H1 dx (.own kp)) kp (.ins C dx [])):=fun y o e=>by
    rw [upd_ne (fun z=>by rw [z,nk] at e;cases e),upd_ne (fun z=>by rw [z,nd] at e;cases e)];exact e
  refine ⟨kp,dx,f',a',c',b,ps,ws,rfl,upd_same,G1.keep s1,fun sl x H2 n1 n2 n3 n4 K2 k2=>⟨rfl,k sl x H2 (made_same nk nd k2) K2 (made_free nk nd n1) (made_free nk nd n3) (made_free nk nd n4)⟩⟩
noncomputable def Chain (wss:List (List Int)) (hist:List (Nat×Int)):Prop:=wss.length=hist.length+1∧∀ (i:Nat) (u v:List Int) (h:Nat×Int),wss[i]?=some u→wss[i+1]?=some v→hist[i]?=some h→u=v.set h.1 h.2
theorem Chain.undo {i0:List (List Int)} {wz ws:List Int} {h0:List (Nat×Int)} {p:Nat} {x:Int} (c:Chain (i0++[wz]++[ws]) (h0++[(p,x)])):wz=ws.set p x∧Chain (i0++[wz]) h0:=by
  have hl:=c.1
  simp at hl
  refine ⟨c.2 i0.length wz ws (p,x) (by simp) ?_ (by rw [show i0.length=h0.length by lia];simp),by simp;lia,fun i u v h e1 e2 e3=>c.2 i u v h ?_ ?_ ?_⟩
  · rw [show i0.length+1=(i0++[wz]).length by simp,List.getElem?_append_right (Nat.le_refl _)];simp
  · rw [List.getElem?_append_left (List.getElem?_eq_some_iff.mp e1).1];exact e1
  · rw [List.getElem?_append_left (List.getElem?_eq_some_iff.mp e2).1];exact e2
  · rw [List.getElem?_append_left (List.getElem?_eq_some_iff.mp e3).1];exact e3
theorem set_back {ws:List Int} {p:Nat} {x y:Int} (h:ws[p]?=some y):ws=(ws.set p x).set p y:=by
  rw [List.set_set]
  refine List.ext_getElem? fun i=>?_
  rw [List.getElem?_set]
  split
  · rename_i e
    subst e
    rw [if_pos (List.getElem?_eq_some_iff.mp h).1]
    exact h
  · rfl
theorem Chain.weigh {ini:List (List Int)} {ws:List Int} {hist:List (Nat×Int)} {p:Nat} {x y:Int} (c:Chain (ini++[ws]) hist) (h:ws[p]?=some y):Chain (ini++[ws]++[ws.set p x]) (hist++[(p,y)]):=by
  have hl:=c.1
  simp at hl
  refine ⟨by simp;lia,fun i u v g e1 e2 e3=>?_⟩
  rcases snoc_get e3 with ⟨hi,e3⟩ | ⟨rfl,rfl⟩
  · rw [List.getElem?_append_left (by simp;lia)] at e1
    rw [List.getElem?_append_left (by simp;lia)] at e2
    exact c.2 i u v g e1 e2 e3
  · rw [← hl,List.append_assoc,List.getElem?_append_right (Nat.le_refl _)] at e1
    rw [show hist.length+1=(ini++[ws]).length by simp;lia,List.getElem?_append_right (Nat.le_refl _)] at e2
    simp at e1 e2
    subst e1;subst e2
    exact set_back h
theorem DueW.uniq {ws:List Int} {hist:List (Nat×Int)} {d:Option (V×V)} {w1 w2:Str} (h1:DueW ws hist d w1) (h2:DueW ws hist d w2):w1=w2:=by
  rcases h1 with ⟨e,_,rfl⟩ | ⟨pl,wt,e,h1⟩
  · rcases h2 with ⟨_,_,rfl⟩ | ⟨pl',wt',e',_⟩
    · rfl
    · rw [e] at e';cases e'
  · rcases h2 with ⟨e',_⟩ | ⟨pl',wt',e',h2⟩
    · rw [e] at e';cases e'
    · rw [e] at e'
      cases e'
      rcases h1 with ⟨a1,rfl⟩ | ⟨a1,a2,rfl⟩ <;> rcases h2 with ⟨b1,rfl⟩ | ⟨b1,b2,rfl⟩
      · rfl
      · rw [a1] at b1;cases b1
      · rw [a1] at b1;cases b1
      · rfl
theorem DueW.word {ws:List Int} {hist:List (Nat×Int)} {d:Option (V×V)} {wd:Str} (h:DueW ws hist d wd):wd="number"∨wd="part":=by
  rcases h with ⟨_,_,rfl⟩ | ⟨_,_,_,⟨_,rfl⟩ | ⟨_,_,rfl⟩⟩
  · exact .inl rfl
  · exact .inr rfl
  · exact .inl rfl
theorem DueW.noW {ws:List Int} {hist:List (Nat×Int)} {p:Nat} {x:Int} {wd:Str} (h:DueW ws hist (some (.int p,.int x)) wd) (hp:p<ws.length) (h1 : -9≤x) (h2:x≤9):False:=by
  rcases h with ⟨e,_⟩ | ⟨pl,wt,e,h⟩
  · cases e
  · cases e
    rcases h with ⟨a,_⟩ | ⟨_,a,_⟩
    · simp [betw] at a;lia
    · simp [betw] at a;lia
theorem DueS.noW {ws ws':List Int} {hist hist':List (Nat×Int)} {d:Option (V×V)} {wd:Str} (h:DueS ws hist d ws' hist') (hw:DueW ws hist d wd):False:=by
  rcases h with ⟨h0,p,x,rfl,e,_⟩ | ⟨p,x,y,rfl,hp,h1,h2,_⟩
  · rcases hw with ⟨_,e',_⟩ | ⟨pl,wt,e',_⟩
    · rw [e] at e';simp at e'
    · cases e'
  · exact hw.noW hp h1 h2
theorem lay_wd {wd:Str} (h:wd="number"∨wd="part"):PyData.canLay0 (.str wd)=true:=by
  rcases h with rfl | rfl <;> decide +kernel
section
variable {C:Addr} {H H':Hp} {kp dx sl st:Addr} {as:List AF} {b b':Nat} {ps ps':List Nat} {wss:List (List Int)} {s f a c e:Addr} {ks:List Addr} {ws:List Int} {hist:List (Nat×Int)}
theorem KpAt.stay (K:KpAt C H kp dx sl as b ps wss) (s:Stay H H') (h:H' sl=H sl):KpAt C H' kp dx sl as b ps wss :=
  ⟨s _ _ K.ob nr_ins,by rw [h];exact K.ls,K.len,fun i x ws h1 h2=>(K.each i x ws h1 h2).stay s⟩
theorem StA.ne_sl (A:StA H s f a c e ks b ps ws hist) (K:KpAt C H kp dx sl as b' ps' wss) (hne:as≠[]):e≠sl:=fun z=>by
  have h:=A.he
  rw [z,K.ls] at h
  obtain ⟨x,r,rfl⟩:=List.exists_cons_of_ne_nil hne
  cases ks with
  | nil=>cases h
  | cons k0 kr =>
    have e1:V.ref x.1=V.ref k0:=by
      injection h with h;injection h with h;injection h
    injection e1 with e1
    have hk:=A.hk 0 k0 (hist[0]'(by have:=A.hl;simp at this;lia)) rfl (List.getElem?_eq_getElem _)
    have hx:=(K.each 0 x (wss[0]'(by have:=K.len;simp at this;lia)) rfl (List.getElem?_eq_getElem _)).tp
    rw [e1,hk] at hx
    cases hx
theorem StA.ksl (A:StA H s f a c e ks b ps ws hist) (K:KpAt C H kp dx sl as b' ps' wss) (hne:as≠[]) (k:Kp [sl] H H'):StA H' s f a c e ks b ps ws hist:=by
  have t:=k.stay K.ls (refs_map _ _)
  exact ⟨t _ _ A.hs nr_tup,A.fr.stay t,k _ _ A.he (by simpa using A.ne_sl K hne),A.hl,fun i k' h h1 h2=>t _ _ (A.hk i k' h h1 h2) nr_tup⟩
end
theorem via {I NX:St→Hp→Prop} {G:Prop} (main:(∀ σ H,I σ H→NX σ H)→G) (key:∀ σ H,I σ H→NX σ H):G:=main key
structure Kw where
  kp:Addr
  dx:Addr
  sl:Addr
  as:List AF
  ini:List (List Int)
  ws:List Int
  s:Addr
  f:Addr
  a:Addr
  c:Addr
  e:Addr
  ks:List Addr
  hist:List (Nat×Int)
structure W5 (C:Addr) (H:Hp) (X:List Addr) (b:Nat) (ps:List Nat) (k:Kw):Prop where
  K:KpAt C H k.kp k.dx k.sl k.as b ps (k.ini++[k.ws])
  ko:∀ x∈k.as,x.2.1∉X∧x.2.2∉X
  A:StA H k.s k.f k.a k.c k.e k.ks b ps k.ws k.hist
  na:k.a∉X
  nc:k.c∉X
  hr:HistR k.ws.length k.hist
  ch:Chain (k.ini++[k.ws]) k.hist
noncomputable def NI (H:Hp) (y:Addr):Prop:=∃ (g:Int) (xs:List V),H y=some (.lst (V.int g::xs))
theorem NI.ne {H:Hp} {y z:Addr} {o:HO} (n:NI H y) (h:H z=some o) (q:∀ g xs,o≠.lst (V.int g::xs)):z≠y:=fun e=>by
  obtain ⟨g,xs,hy⟩:=n
  rw [e,hy] at h
  exact q g xs (Option.some.inj h).symm
theorem NI.refs {H:Hp} {y z:Addr} {α:Type} {g:α→Addr} {l:List α} (n:NI H y) (h:H z=some (.lst (l.map fun x=>V.ref (g x)))):z≠y:=n.ne h fun i xs e=>by
  injection e with e
  obtain ⟨a,q⟩:=refs_map g l (.int i) (by rw [e];simp)
  cases q
theorem Store.ni {H:Hp} {st:Addr} (S:Store H st):NI H st:=let ⟨g,c,k,e⟩:=S;⟨g,_,e⟩
theorem FrAt.niw {H:Hp} {f a c:Addr} {b:Nat} {ps:List Nat} {ws:List Int} (G:FrAt H f a c b ps ws):NI H c:=by
  have h:=G.ok.wl
  have h2:=G.ok.sum
  cases ws with
  | nil=>simp at h;lia
  | cons x r=>exact ⟨x,_,G.hw⟩
theorem FrAt.nip {H:Hp} {f a c:Addr} {b:Nat} {ps:List Nat} {ws:List Int} (G:FrAt H f a c b ps ws):NI H a:=by
  have h2:=G.ok.l2
  cases ps with
  | nil=>simp at h2
  | cons x r=>exact ⟨x,_,G.hp⟩
theorem FrAt.kni {H H':Hp} {f a c y:Addr} {b:Nat} {ps:List Nat} {ws:List Int} (G:FrAt H f a c b ps ws) (n:NI H y) (k:Kp [y] H H') (na:a≠y) (nc:c≠y):FrAt H' f a c b ps ws :=
  G.kp k (by simpa using n.ne G.tp (fun _ _ z=>by cases z)) (by simpa using na) (by simpa using nc)
theorem KpAt.kni {C:Addr} {H H':Hp} {kp dx sl y:Addr} {as:List AF} {b:Nat} {ps:List Nat} {wss:List (List Int)} (K:KpAt C H kp dx sl as b ps wss) (n:NI H y) (k:Kp [y] H H') (ko:∀ x∈as,x.2.1≠y∧x.2.2≠y):KpAt C H' kp dx sl as b ps wss :=
  ⟨k _ _ K.ob (by simpa using n.ne K.ob (fun _ _ z=>by cases z)),k _ _ K.ls (by simpa using n.refs K.ls),K.len,fun i x ws h1 h2=>(K.each i x ws h1 h2).kni n k (ko x (List.mem_of_getElem? h1)).1 (ko x (List.mem_of_getElem? h1)).2⟩
theorem StA.kni {H H':Hp} {s f a c e y:Addr} {ks:List Addr} {b:Nat} {ps:List Nat} {ws:List Int} {hist:List (Nat×Int)} (A:StA H s f a c e ks b ps ws hist) (n:NI H y) (k:Kp [y] H H') (na:a≠y) (nc:c≠y):StA H' s f a c e ks b ps ws hist :=
  ⟨k _ _ A.hs (by simpa using n.ne A.hs (fun _ _ z=>by cases z)),A.fr.kni n k na nc,k _ _ A.he (by simpa using n.refs (g:=fun x=>x) A.he),A.hl,fun i k' h h1 h2=>k _ _ (A.hk i k' h h1 h2) (by simpa using n.ne (A.hk i k' h h1 h2) (fun _ _ z=>by cases z))⟩
section
variable {C:Addr} {H H':Hp} {X:List Addr} {b:Nat} {ps:List Nat} {k k2:Kw} {y:Addr}
theorem KpAt.ne {kp dx sl:Addr} {as:List AF} {ini:List (List Int)} {ws:List Int} (K:KpAt C H kp dx sl as b ps (ini++[ws])):as≠[]:=fun z=>by have:=K.len;rw [z] at this;simp at this
theorem W5.keep (W:W5 C H X b ps k) (t:Same H H'):W5 C H' X b ps k:=⟨W.K.keep t,W.ko,W.A.keep t,W.na,W.nc,W.hr,W.ch⟩
theorem W5.kni (W:W5 C H X b ps k) (n:NI H y) (hy:y∈X) (t:Kp [y] H H'):W5 C H' X b ps k :=
  ⟨W.K.kni n t fun x hx=>⟨fun z=>(W.ko x hx).1 (z▸hy),fun z=>(W.ko x hx).2 (z▸hy)⟩,W.ko,W.A.kni n t (fun z=>W.na (z▸hy)) (fun z=>W.nc (z▸hy)),W.na,W.nc,W.hr,W.ch⟩
theorem W5.oth (W:W5 C H X b ps k) (V:W5 C H X b ps k2) (n:k.sl≠k2.sl) (t:Kp [k2.sl] H H'):W5 C H' X b ps k :=
  ⟨W.K.stay (t.stay V.K.ls (refs_map _ _)) (by rw [t _ _ W.K.ls (by simpa using n),W.K.ls]),W.ko,W.A.ksl V.K V.K.ne t,W.na,W.nc,W.hr,W.ch⟩
theorem StA.ne_st {s f a c e u:Addr} {ks:List Addr} {ws:List Int} {hist:List (Nat×Int)} (A:StA H s f a c e ks b ps ws hist) {l:List Kw} (hu:H u=some (.lst (l.map fun x=>V.ref x.s))) (hl:0<l.length) (U:∀ k∈l,∃ f e,H k.s=some (.tup [.ref f,.ref e])):e≠u:=fun z=>by
  have h:=A.he
  rw [z,hu] at h
  cases l with
  | nil=>simp at hl
  | cons x r =>
    cases ks with
    | nil=>cases h
    | cons k0 kr =>
      have e1:V.ref x.s=V.ref k0:=by
        injection h with h;injection h with h;injection h
      injection e1 with e1
      have hk:=A.hk 0 k0 (hist[0]'(by have:=A.hl;simp at this;lia)) rfl (List.getElem?_eq_getElem _)
      obtain ⟨_,_,hx⟩:=U x (by simp)
      rw [e1,hk] at hx
      cases hx
theorem W5.ste (W:W5 C H X b ps k) {u:Addr} (nsl:k.sl≠u) {l:List Kw} (hu:H u=some (.lst (l.map fun x=>V.ref x.s))) (hl:0<l.length) (U:∀ k∈l,∃ f e,H k.s=some (.tup [.ref f,.ref e])) (t:Kp [u] H H'):W5 C H' X b ps k:=by
  have s:=t.stay hu (refs_map _ _)
  exact ⟨W.K.stay s (by rw [t _ _ W.K.ls (by simpa using nsl),W.K.ls]),W.ko,⟨s _ _ W.A.hs nr_tup,W.A.fr.stay s,t _ _ W.A.he (by simpa using W.A.ne_st hu hl U),W.A.hl,fun i k' h h1 h2=>s _ _ (W.A.hk i k' h h1 h2) nr_tup⟩,W.na,W.nc,W.hr,W.ch⟩
end
noncomputable def spStand (C:Addr):Sp:=fun vs H Q _=>∃ (kl sts:Addr) (l:List Kw) (X:List Addr) (b:Nat) (ps:List Nat) (d:Nat),vs=[.ref kl,.ref sts,.int d]∧H kl=some (.lst (l.map fun x=>V.ref x.kp))∧H sts=some (.lst (l.map fun x=>V.ref x.s))∧l.length≤1000∧(∀ k∈l,W5 C H X b ps k∧k.ini.length≤900)∧∀ H',Same H H'→Q (.bl true) H'
theorem map_at {α:Type} {g:α→Addr} {l:List α} {j:Nat} {v:V} (h:(l.map fun x=>V.ref (g x))[j]?=some v):∃ x,l[j]?=some x∧v=.ref (g x):=by
  rw [List.getElem?_map] at h
  cases e:l[j]? with
  | none=>rw [e] at h;cases h
  | some x=>rw [e] at h;exact ⟨x,rfl,(Option.some.inj h).symm⟩
section
variable {P:Program} {w:World} {K:PySem.W.Frag} {mg:Str→Option Value} {base:Heap} {C:Addr}
theorem scCopy:FnScope ["frame"] ["frame"] (defScope sCopy):=⟨rfl,rfl,rfl,by decide +kernel,rfl,by decide +kernel,by decide +kernel⟩
theorem ok_copyl {f:Addr} {fd:FuncData} (F:Fun K "_law_copy" "_law_copy" sCopy f fd) (T:Txt mg):FnOk P w K mg base CX0 1 f fd ["frame"] spCopyK:=by
  refine F.ok scCopy (fun vs H Q E h=>?_) (fun cdv A outer s H vs Q E hr h=>?_)
  · obtain ⟨f,a,c,b,ps,ws,rfl,_⟩:=h;rfl
  · obtain ⟨f,a,c,b,ps,ws,rfl,G,k⟩:=h
    have nd:=scCopy.nd
    refine ⟨_,(pss_one (ps_ret (pe_tup (pa_cons (ixt (pv 0) pe_int) (pa_cons (pe_callTy call_list_of (by rfl) T.list boot_list (pa_cons (ixt (pv 0) pe_int) pa_nil)) (pa_cons (pe_callTy call_list_of (by rfl) T.list boot_list (pa_cons (ixt (pv 0) pe_int) pa_nil)) pa_nil)))))),?_⟩
    refine ⟨_,rfl,_,_,_,_,rfl,rfl,SqT.of G.tp,rfl,⟨_,rfl,_,_,_,_,rfl,rfl,SqT.of G.tp,rfl,⟨a,_,rfl,.inl (SqL.of G.hp),fun a' ha'=>?_⟩⟩⟩
    have s1:=same_upd (o:=.lst (natV ps)) ha'
    have u1:(upd H a' (.lst (natV ps))) a'=_:=upd_same
    generalize upd H a' (.lst (natV ps))=H1 at s1 u1⊢
    refine ⟨_,rfl,_,_,_,_,rfl,rfl,SqT.of (s1 _ _ G.tp),rfl,⟨c,_,rfl,.inl (SqL.of (s1 _ _ G.hw)),fun c' hc'=>⟨sz (by simp),fun f' hf'=>?_⟩⟩⟩
    have s2:=same_upd (o:=.lst (ws.map V.int)) hc'
    have s3:=same_upd (o:=.tup [.int b,.ref a',.ref c']) hf'
    exact k f' a' c' _ (s1.trans (s2.trans s3)) ⟨upd_same,s3 _ _ (s2 _ _ u1),s3 _ _ upd_same,G.ok⟩ (s1.free (s2.free hf')) ha' (s1.free hc') (fun z=>by rw [← z,u1] at hc';cases hc')
theorem scLawStand:FnScope ["keepers","states","d","keeper","state","frame","early"] ["keepers","states","d"] (defScope sLawStand):=⟨rfl,rfl,rfl,by decide +kernel,rfl,by decide +kernel,by decide +kernel⟩
theorem ok_stand {f:Addr} {fd:FuncData} (F:Fun K "_law_stand" "_law_stand" sLawStand f fd) (T:Txt mg) (d_law_near:Def P w K mg base 2 "_law_near" ["frame","d"] spCountNear) (cl:Cls K C) (m_frame:MDef P w K mg base 2 C "frame" ["self"] (spFrameK C)) (m_changes:MDef P w K mg base 1 C "changes" ["self"] (spChanges C)) (m_near:MDef P w K mg base 7 C "near" ["self","d"] (spNearK C)):FnOk P w K mg base CX0 8 f fd ["keepers","states","d"] (spStand C):=by
  refine F.ok scLawStand (fun vs H Q E h=>?_) (fun cdv A outer s H vs Q E hr h=>?_)
  · obtain ⟨kl,sts,l,X,b,ps,d,rfl,_⟩:=h;rfl
  · obtain ⟨kl,sts,l,X,b,ps,d,rfl,hk,hst,hl,U,k⟩:=h
    have nd:=scLawStand.nd
    refine ⟨_,(pss_cons (ps_for PassesOwn.never rfl (pi_zip (by rfl) T.zip (pv 0) (pv 1)) (pg_tup rfl (pgs_cons (pg_name (i:=3) nd rfl (Or.inl rfl)) (pgs_cons (pg_name (i:=4) nd rfl (Or.inl rfl)) pgs_nil)))
        (pss_cons (ps_asg (pv 4) (pg_tup rfl (pgs_cons (pg_name (i:=5) nd rfl (Or.inl rfl)) (pgs_cons (pg_name (i:=6) nd rfl (Or.inl rfl)) pgs_nil))))
        (pss_one (ps_if (PW.pt (pw_or (pt_cmpR (op_neDP P w rfl rfl hr.units) (pe_mt0 cl m_frame (hr.mono (by decide)) (pv 3)) (pv 5) (nomark _)) (pw_or (pt_cmpR op_ne (pe_mt0 cl m_changes (hr.mono (by decide)) (pv 3)) (lenS T.len (by rfl) (pv 6)) (nomark _)) (pw_or1 (pt_cmpR op_ne (pe_mt cl m_near (hr.mono (by decide)) (pv 3) (pa_cons (pv 2) pa_nil)) (pe_fn d_law_near (hr.mono (by decide)) (by rfl) (pa_cons (pv 5) (pa_cons (pv 2) pa_nil))) (nomark _)))))) (pss_one (ps_ret pe_bl)) pss_nil))))
      (pss_one (ps_ret pe_bl))),?_⟩
    refine ⟨_,rfl,_,rfl,kl,sts,rfl,rfl,⟨_,SqL.of hk⟩,⟨_,SqL.of hst⟩,for_zip (K:=K) (a:=kl) (b:=sts) (xs:=l.map fun x=>V.ref x.kp) (ys:=l.map fun x=>V.ref x.s) (fun j σ H'=>∃ (v3 v4 v5 v6:Option V),σ=[some (.ref kl),some (.ref sts),some (.int d),v3,v4,v5,v6]∧Same H H')
      (by simp) ⟨none,none,none,none,rfl,Same.refl _⟩ (fun j σ H' _ h=>by obtain ⟨_,_,_,_,_,s⟩:=h;exact ⟨SqL.of (s _ _ hk),SqL.of (s _ _ hst)⟩) ?_ ?_⟩
    · rintro j x y σ H1 t hx hy ⟨v3,v4,v5,v6,rfl,s1⟩ ht
      obtain ⟨q,hq,rfl⟩:=map_at (g:=Kw.kp) hx
      obtain ⟨q',hq',rfl⟩:=map_at (g:=Kw.s) hy
      rw [hq] at hq'
      cases hq'
      obtain ⟨W0,hi⟩:=U q (List.mem_of_getElem? hq)
      have sT:=same_upd (o:=.tup [.ref q.kp,.ref q.s]) ht
      refine ⟨t,_,rfl,SqT.of upd_same,rfl,_,_,rfl,_,_,rfl,rfl,?_⟩
      have W1:=W0.keep (s1.trans sT)
      have s2:=s1.trans sT
      generalize upd H1 t (.tup [.ref q.kp,.ref q.s])=H2 at W1 s2⊢
      refine ⟨_,rfl,q.s,_,rfl,SqT.of W1.A.hs,rfl,_,_,rfl,_,_,rfl,rfl,?_⟩
      refine ⟨_,rfl,q.kp,q.dx,_,rfl,W1.K.ob,stF_no (by decide +kernel),q.kp,q.dx,q.sl,q.as,b,ps,q.ini,q.ws,rfl,W1.K,fun ft at' ct H3 s3 G3 _ _ _=>?_⟩
      have W3:=W1.keep s3
      refine ⟨_,rfl,L2.eq_self G3.dat W3.A.fr.dat (frD_lay _ _ _) (frD_depth _ _ _) ⟨_,rfl,iteF ?_⟩⟩
      refine ⟨_,rfl,q.kp,q.dx,_,rfl,W3.K.ob,stF_no (by decide +kernel),q.kp,q.dx,q.sl,q.as,b,ps,q.ini++[q.ws],rfl,W3.K,?_⟩
      refine ⟨_,rfl,q.e,_,rfl,.inl (SqL.of W3.A.he),rfl,_,rfl,?_⟩
      have hl1:((q.ini++[q.ws]).length:Int) - 1=(((q.ks.map V.ref).length:Nat):Int):=by
        have h1:=W3.ch.1
        have h2:=W3.A.hl
        simp at h1⊢
        lia
      rw [ne_int_self hl1]
      refine iteF ⟨_,rfl,q.kp,q.dx,_,rfl,W3.K.ob,stF_no (by decide +kernel),_,rfl,q.kp,q.dx,q.sl,q.as,b,ps,q.ini,q.ws,d,rfl,W3.K,fun H4 s4=>?_⟩
      refine ⟨_,rfl,_,rfl,q.f,q.a,q.c,b,ps,q.ws,d,rfl,(W3.keep s4).A.fr,fun H5 s5=>⟨rfl,_,rfl,?_⟩⟩
      rw [ne_int_self rfl]
      exact iteF ⟨_,_,_,_,rfl,((s2.trans s3).trans s4).trans s5⟩
    · rintro σ H1 ⟨v3,v4,v5,v6,rfl,s1⟩
      exact k _ s1
end
end Hv
namespace Hv
open PySem L2
structure I3 (C:Addr) (H:Hp) (X:List Addr) (kl sts:Addr) (b:Nat) (ps:List Nat) (l:List Kw):Prop where
  len:l.length=3
  hk:H kl=some (.lst (l.map fun x=>V.ref x.kp))
  hs:H sts=some (.lst (l.map fun x=>V.ref x.s))
  U:∀ k∈l,W5 C H X b ps k
  ne:∀ (i j:Nat) (p q:Kw),l[i]?=some p→l[j]?=some q→i≠j→p.sl≠q.sl
  nk:∀ k∈l,k.sl≠kl
  ns:∀ k∈l,k.sl≠sts
  nks:kl≠sts
section
variable {C:Addr} {H H' H1 H2 H3:Hp} {X:List Addr} {kl sts:Addr} {b:Nat} {ps:List Nat} {l:List Kw} {y:Addr} {i:Nat} {k0 k1:Kw}
theorem I3.keep (I:I3 C H X kl sts b ps l) (t:Same H H'):I3 C H' X kl sts b ps l:=⟨I.len,t _ _ I.hk,t _ _ I.hs,fun k hk=>(I.U k hk).keep t,I.ne,I.nk,I.ns,I.nks⟩
theorem I3.kni (I:I3 C H X kl sts b ps l) (n:NI H y) (hy:y∈X) (t:Kp [y] H H'):I3 C H' X kl sts b ps l:=⟨I.len,t _ _ I.hk (by simpa using n.refs I.hk),t _ _ I.hs (by simpa using n.refs I.hs),fun k hk=>(I.U k hk).kni n hy t,I.ne,I.nk,I.ns,I.nks⟩
theorem mem_set_at {α:Type} {l:List α} {i:Nat} {x y:α} (h:y∈l.set i x):y=x∨∃ j,j≠i∧l[j]?=some y:=by
  obtain ⟨j,hj⟩:=List.mem_iff_getElem?.mp h
  rw [List.getElem?_set] at hj
  split at hj
  · split at hj
    · exact .inl (Option.some.inj hj).symm
    · cases hj
  · rename_i n
    exact .inr ⟨j,fun z=>n z.symm,hj⟩
theorem set_cases {α:Type} {l:List α} {i j:Nat} {x y:α} (h:(l.set i x)[j]?=some y):(j=i∧y=x)∨(j≠i∧l[j]?=some y):=by
  rw [List.getElem?_set] at h
  split at h
  · rename_i n
    split at h
    · exact .inl ⟨n.symm,(Option.some.inj h).symm⟩
    · cases h
  · rename_i n
    exact .inr ⟨fun z=>n z.symm,h⟩
theorem map_set_same {α β:Type} {l:List α} {g:α→β} {i:Nat} {x y:α} (h:l[i]?=some x) (e:g y=g x):(l.set i y).map g=l.map g:=by
  refine List.ext_getElem? fun j=>?_
  rw [List.getElem?_map,List.getElem?_map,List.getElem?_set]
  split
  · rename_i n
    subst n
    rw [if_pos (List.getElem?_eq_some_iff.mp h).1,h]
    simp [e]
  · rfl
theorem I3.step (I:I3 C H X kl sts b ps l) (hi:l[i]?=some k0) (t1:Kp [k0.sl] H H1) (e1:k1.kp=k0.kp) (e2:k1.sl=k0.sl) (W:W5 C H1 X b ps k1) (t2:Same H1 H2) (t3:Kp [sts] H2 H3) (h3:H3 sts=some (.lst ((l.map fun x=>V.ref x.s).set i (.ref k1.s)))):I3 C H3 X kl sts b ps (l.set i k1):=by
  have m0:=List.mem_of_getElem? hi
  have W0:=I.U k0 m0
  have st:=t1.stay W0.K.ls (refs_map _ _)
  have h2:H2 sts=some (.lst (l.map fun x=>V.ref x.s)):=t2 _ _ (t1 _ _ I.hs (by simpa using (I.ns k0 m0).symm))
  have U2:∀ k∈l,∃ f e,H2 k.s=some (.tup [.ref f,.ref e]):=fun k hk=>⟨_,_,t2 _ _ (st _ _ (I.U k hk).A.hs nr_tup)⟩
  have hl:0<l.length:=by rw [I.len];decide
  refine ⟨by rw [List.length_set];exact I.len,?_,?_,fun k hk=>?_,fun a c p q hp hq n=>?_,fun k hk=>?_,fun k hk=>?_,I.nks⟩
  · rw [map_set_same hi (by rw [e1])]
    exact t3 _ _ (t2 _ _ (t1 _ _ I.hk (by simpa using (I.nk k0 m0).symm))) (by simpa using I.nks)
  · rw [h3,List.map_set]
  · rcases mem_set_at hk with rfl | ⟨j,nj,hj⟩
    · exact (W.keep t2).ste (by rw [e2];exact I.ns k0 m0) h2 hl U2 t3
    · exact (((I.U k (List.mem_of_getElem? hj)).oth W0 (I.ne _ _ _ _ hj hi nj) t1).keep t2).ste (I.ns k (List.mem_of_getElem? hj)) h2 hl U2 t3
  · rcases set_cases hp with ⟨rfl,rfl⟩ | ⟨n1,h1⟩ <;> rcases set_cases hq with ⟨rfl,rfl⟩ | ⟨n2,h2'⟩
    · exact absurd rfl n
    · rw [e2];exact I.ne _ _ _ _ hi h2' n
    · rw [e2];exact I.ne _ _ _ _ h1 hi n
    · exact I.ne _ _ _ _ h1 h2' n
  · rcases mem_set_at hk with rfl | ⟨j,nj,hj⟩
    · rw [e2];exact I.nk k0 m0
    · exact I.nk k (List.mem_of_getElem? hj)
  · rcases mem_set_at hk with rfl | ⟨j,nj,hj⟩
    · rw [e2];exact I.ns k0 m0
    · exact I.ns k (List.mem_of_getElem? hj)
end
structure J3 (C:Addr) (H0 H:Hp) (st kl sts:Addr) (b:Nat) (ps:List Nat) (l:List Kw) (fh ah ch f0 a0 c0:Addr) (ws0:List Int) (j:Nat):Prop where
  I:I3 C H [st,ah,ch] kl sts b ps l
  S:Store H st
  Gh:FrAt H fh ah ch b ps ws0
  Gf:FrAt H f0 a0 c0 b ps ws0
  lj:∀ k∈l,k.ini.length≤j
  fr:∀ k∈l,H0 k.sl=none
  fs:H0 sts=none
  sm:Same H0 H
  n1:ah≠st
  n2:ch≠st
  n3:a0≠st
  n4:c0≠st
  nst:H0 st=none
section
variable {C:Addr} {H0 H H':Hp} {st kl sts:Addr} {b:Nat} {ps:List Nat} {l:List Kw} {fh ah ch f0 a0 c0:Addr} {ws0:List Int} {j j':Nat}
theorem J3.keep (J:J3 C H0 H st kl sts b ps l fh ah ch f0 a0 c0 ws0 j) (t:Same H H'):J3 C H0 H' st kl sts b ps l fh ah ch f0 a0 c0 ws0 j:=⟨J.I.keep t,J.S.keep t,J.Gh.keep t,J.Gf.keep t,J.lj,J.fr,J.fs,J.sm.trans t,J.n1,J.n2,J.n3,J.n4,J.nst⟩
theorem J3.kst (J:J3 C H0 H st kl sts b ps l fh ah ch f0 a0 c0 ws0 j) (S':Store H' st) (t:Kp [st] H H'):J3 C H0 H' st kl sts b ps l fh ah ch f0 a0 c0 ws0 j:=⟨J.I.kni J.S.ni (by simp) t,S',J.Gh.kps J.S J.n1 J.n2 t,J.Gf.kps J.S J.n3 J.n4 t,J.lj,J.fr,J.fs,same_kp J.sm J.nst t,J.n1,J.n2,J.n3,J.n4,J.nst⟩
theorem J3.le (J:J3 C H0 H st kl sts b ps l fh ah ch f0 a0 c0 ws0 j) (h:j≤j'):J3 C H0 H st kl sts b ps l fh ah ch f0 a0 c0 ws0 j':=⟨J.I,J.S,J.Gh,J.Gf,fun k hk=>Nat.le_trans (J.lj k hk) h,J.fr,J.fs,J.sm,J.n1,J.n2,J.n3,J.n4,J.nst⟩
theorem J3.step {H1 H2 H3:Hp} {i:Nat} {k0 k1:Kw} (J:J3 C H0 H st kl sts b ps l fh ah ch f0 a0 c0 ws0 j) (hi:l[i]?=some k0) (t1:Kp [k0.sl] H H1) (e1:k1.kp=k0.kp) (e2:k1.sl=k0.sl) (W:W5 C H1 [st,ah,ch] b ps k1) (lk:k1.ini.length≤j+1) (t2:Same H1 H2) (t3:Kp [sts] H2 H3) (h3:H3 sts=some (.lst ((l.map fun x=>V.ref x.s).set i (.ref k1.s)))):J3 C H0 H3 st kl sts b ps (l.set i k1) fh ah ch f0 a0 c0 ws0 (j+1):=by
  have m0:=List.mem_of_getElem? hi
  have W0:=J.I.U k0 m0
  have s1:=t1.stay W0.K.ls (refs_map _ _)
  have h2:H2 sts=some (.lst (l.map fun x=>V.ref x.s)):=t2 _ _ (t1 _ _ J.I.hs (by simpa using (J.I.ns k0 m0).symm))
  have s3:=t3.stay h2 (refs_map _ _)
  refine ⟨J.I.step hi t1 e1 e2 W t2 t3 h3,((J.S.stay s1).keep t2).stay s3,((J.Gh.stay s1).keep t2).stay s3,((J.Gf.stay s1).keep t2).stay s3,fun k hk=>?_,fun k hk=>?_,J.fs,same_kp ((same_kp J.sm (J.fr k0 m0) t1).trans t2) J.fs t3,J.n1,J.n2,J.n3,J.n4,J.nst⟩
  · rcases mem_set_at hk with rfl | ⟨q,_,hq⟩
    · exact lk
    · exact Nat.le_succ_of_le (J.lj k (List.mem_of_getElem? hq))
  · rcases mem_set_at hk with rfl | ⟨q,_,hq⟩
    · rw [e2];exact J.fr k0 m0
    · exact J.fr k (List.mem_of_getElem? hq)
end
section
variable {P:Program} {w:World} {K:PySem.W.Frag} {mg:Str→Option Value} {base:Heap} {C:Addr} {c:Nat→Addr}
theorem scLaw:FnScope ["script","at","store","frame","handed","keepers","states","turn","k","deed","due","found"] ["script"] (defScope sLaw):=⟨rfl,rfl,rfl,by decide +kernel,rfl,by decide +kernel,by decide +kernel⟩
theorem ok_law {f:Addr} {fd:FuncData} (F:Fun K "law" "law" sLaw f fd) (T:Txt mg) (nstr:mg "str"=none) (d_law_cell:Def P w K mg base 1 "_law_cell" ["script","k"] (spCell K)) (d_law_store:Def P w K mg base 1 "_law_store" ["cell"] spStore) (d_law_take:Def P w K mg base 1 "_law_take" ["store","many"] spTake) (d_law_frame:Def P w K mg base 2 "_law_frame" ["store","longest"] spFrame) (d_law_copy:Def P w K mg base 1 "_law_copy" ["frame"] spCopyK) (d_law_deed:Def P w K mg base 2 "_law_deed" ["store","state"] spDeed) (d_law_due:Def P w K mg base 2 "_law_due" ["state","deed"] spDue) (d_law_asked:Def P w K mg base 9 "_law_asked" ["keeper","deed","due"] (spAsked C)) (d_law_even:Def P w K mg base 2 "_law_even" ["frame"] spCountEven) (d_law_stand:Def P w K mg base 8 "_law_stand" ["keepers","states","d"] (spStand C)) (cl:Cls K C) (m_frame:MDef P w K mg base 2 C "frame" ["self"] (spFrameK C)) (k_Keeper:CDef P w K mg base 6 "Keeper" C ["self","frame"] (spInit C)):FnOk P w K mg base CX0 10 f fd ["script"] (spLaw K):=by
  refine F.ok scLaw (fun vs H Q E h=>?_) (fun cdv A outer s H vs Q E hr h=>?_)
  · obtain ⟨a0,ns,rfl,_⟩:=h;rfl
  · obtain ⟨a0,ns,rfl,hS,hlen,k⟩:=h
    have nd:=scLaw.nd
    refine ⟨_,(pss_cons (ps_for PassesOwn.never rfl (pi_range1 (by rfl) T.range (pa_cons (pe_callB (call_min2 rfl) (by rfl) T.min boot_min (pa_cons (pe_callB (call_max2 rfl) (by rfl) T.max boot_max (pa_cons (lenS T.len (by rfl) (pv 0)) (pa_cons pe_int pa_nil))) (pa_cons pe_int pa_nil))) pa_nil)) (pg_name (i:=1) nd rfl (Or.inl rfl))
        (pss_cons (ps_set (i:=2) nd rfl (Or.inl rfl) (pe_fn d_law_store (hr.mono (by decide)) (by rfl) (pa_cons (pe_fn d_law_cell (hr.mono (by decide)) (by rfl) (pa_cons (pv 0) (pa_cons (pv 1) pa_nil))) pa_nil)))
        (pss_cons (ps_set (i:=3) nd rfl (Or.inr rfl) (pe_fn d_law_frame (hr.mono (by decide)) (by rfl) (pa_cons (pv 2) (pa_cons pe_int pa_nil))))
        (pss_cons (ps_set (i:=4) nd rfl (Or.inl rfl) (pe_fn d_law_copy (hr.mono (by decide)) (by rfl) (pa_cons (pv 3) pa_nil)))
        (pss_cons (ps_set (i:=5) nd rfl (Or.inl rfl) (pe_lst (pa_cons (pe_mk k_Keeper (hr.mono (by decide)) (by rfl) (pa_cons (pv 4) pa_nil)) (pa_cons (pe_mk k_Keeper (hr.mono (by decide)) (by rfl) (pa_cons (pv 4) pa_nil)) pa_nil))))
        (pss_cons (ps_expr (pe_bm PySem.F.plainAttrs_list PySem.F.slot_list_append PySem.F.type_list_append mt_append (pv 5) (pa_cons (pe_mk k_Keeper (hr.mono (by decide)) (by rfl) (pa_cons (pe_mt0 cl m_frame (hr.mono (by decide)) (ixl (pv 5) pe_int)) pa_nil)) pa_nil)))
        (pss_cons (ps_cmp1 (defScope sLaw) ["script","at","store","frame","handed","keepers","states","turn","k","deed","due","found"] ["frame"] [3] (i:=6) nd rfl (Or.inl rfl) rfl (pi_range1 (by rfl) T.range (pa_cons pe_int pa_nil)) (fun cl C s H fp=>pf_nil) (fun cl C s H fp=>(pe_tup (pa_cons (pe_fn d_law_copy (hr.mono (by decide)) (by rfl) (pa_cons (pv 1) pa_nil)) (pa_cons (pe_lst pa_nil) pa_nil)))) (by decide +kernel) (by rfl))
        (pss_cons (ps_for PassesOwn.never rfl (pi_range1 (by rfl) T.range (pa_cons (pe_fn d_law_take (hr.mono (by decide)) (by rfl) (pa_cons (pv 2) (pa_cons pe_int pa_nil))) pa_nil)) (pg_name (i:=7) nd rfl (Or.inl rfl))
          (pss_cons (ps_set (i:=8) nd rfl (Or.inl rfl) (pe_fn d_law_take (hr.mono (by decide)) (by rfl) (pa_cons (pv 2) (pa_cons pe_int pa_nil))))
          (pss_cons (ps_set (i:=9) nd rfl (Or.inl rfl) (pe_fn d_law_deed (hr.mono (by decide)) (by rfl) (pa_cons (pv 2) (pa_cons (ixl (pv 6) (pv 8)) pa_nil))))
          (pss_cons (ps_set (i:=10) nd rfl (Or.inl rfl) (pe_fn d_law_due (hr.mono (by decide)) (by rfl) (pa_cons (ixl (pv 6) (pv 8)) (pa_cons (pv 9) pa_nil))))
          (pss_cons (ps_set (i:=11) nd rfl (Or.inl rfl) (pe_fn d_law_asked hr (by rfl) (pa_cons (ixl (pv 5) (pv 8)) (pa_cons (pv 9) (pa_cons (pv 10) pa_nil)))))
          (pss_cons (ps_cut (ps_if (pt_val (pe_callB call_isi (by rfl) T.isi boot_isinstance (pa_cons (pv 10) (pa_cons (pe_ty nstr boot_str') pa_nil)))) (pss_one (ps_if (pt_cmpR (op_neDP P w rfl rfl hr.units) (pv 11) (pv 10) (nomark _)) (pss_one (ps_ret pe_bl)) pss_nil)) (pss_cons (ps_if (pt_cmpR (op_neDP P w rfl rfl hr.units) (pv 11) (pe_tup (pa_cons (pe_fn d_law_even (hr.mono (by decide)) (by rfl) (pa_cons (ixt (ixl (pv 6) (pv 8)) pe_int) pa_nil)) (pa_cons (pe_fn d_law_even (hr.mono (by decide)) (by rfl) (pa_cons (ixt (pv 10) pe_int) pa_nil)) pa_nil))) (nomark _)) (pss_one (ps_ret pe_bl)) pss_nil)
            (pss_one (ps_asg (pv 10) (pg_sub (pv 6) (pv 8) set_list))))))
          (pss_one (ps_if (PW.pt (pw_and (pt_cmpR op_eq (pe_fn d_law_take (hr.mono (by decide)) (by rfl) (pa_cons (pv 2) (pa_cons pe_int pa_nil))) pe_int (nomark _)) (pw_and1 (pt_not (pt_val (pe_fn d_law_stand (hr.mono (by decide)) (by rfl) (pa_cons (pv 5) (pa_cons (pv 6) (pa_cons (pe_fn d_law_take (hr.mono (by decide)) (by rfl) (pa_cons (pv 2) (pa_cons pe_int pa_nil))) pa_nil))))))))) (pss_one (ps_ret pe_bl)) pss_nil))))))))
        (pss_cons (ps_if (pt_cmpR (op_neDP P w rfl rfl hr.units) (pv 4) (pv 3) (nomark _)) (pss_one (ps_ret pe_bl)) pss_nil)
        (pss_cons (ps_asg (pe_op op_sub (pe_op op_mod (pe_op op_add (ixl (ixt (pv 4) pe_int) pe_int) pe_int) pe_int) pe_int) (pg_sub (ixt (pv 4) pe_int) pe_int set_list))
        (pss_cons (ps_expr (pe_bm0 PySem.F.plainAttrs_list PySem.F.slot_list_clear PySem.F.type_list_clear mt_clear (ixt (pv 4) pe_int)))
        (pss_one (ps_if (pt_not (pt_val (pe_fn d_law_stand (hr.mono (by decide)) (by rfl) (pa_cons (pv 5) (pa_cons (pv 6) (pa_cons pe_int pa_nil)))))) (pss_one (ps_ret pe_bl)) pss_nil)))))))))))))
      (pss_one (ps_ret pe_bl))),?_⟩
    refine ⟨_,rfl,a0,_,rfl,.inl hS,_,_,rfl,_,_,rfl,?_⟩
    generalize hM:(if (5:Int)<(if (3:Int)>(((ns.map V.int).length:Nat):Int) then 3 else (((ns.map V.int).length:Nat):Int)) then (5:Int) else (if (3:Int)>(((ns.map V.int).length:Nat):Int) then 3 else (((ns.map V.int).length:Nat):Int)))=M
    have m1:3≤M∧M≤5:=by
      rw [← hM]
      split <;> (split <;> lia)
    refine ⟨_,rfl,by lia,by lia,for_range (n:=M.toNat) (fun i σ H2=>∃ v1 v2 v3 v4 v5 v6 v7 v8 v9 v10 v11,σ=[some (.ref a0),v1,v2,v3,v4,v5,v6,v7,v8,v9,v10,v11]∧Same H H2) ⟨none,none,none,none,none,none,none,none,none,none,none,rfl,Same.refl _⟩ ?_ ?_⟩
    · rintro i σ H2 hi ⟨v1,v2,v3,v4,v5,v6,v7,v8,v9,v10,v11,rfl,s2⟩
      have ez:(0:Int)+(i:Int)=(i:Int):=Int.zero_add _
      rw [ez]
      refine ⟨_,rfl,_,rfl,a0,ns,i,rfl,s2.seq hS,by lia,fun cl'=>⟨cl',rfl,fun st H3 nq s3 E3=>?_⟩⟩
      have hq:H st=none:=s2.free nq
      have S3:=s2.trans s3
      refine ⟨_,rfl,st,2,rfl,E3,by decide,by decide,fun f0 a c0 b ps ws0 H6 E6 k6 G6 nf na nc=>?_⟩
      have na':a≠st:=E3.off na
      have nc':c0≠st:=E3.off nc
      have S6:=same_kp S3 hq k6
      have ok:=G6.ok
      refine ⟨_,rfl,f0,a,c0,b,ps,ws0,rfl,G6,fun fh ah ch H8 s8 G8 nfh nah nch nac=>?_⟩
      have S8:=S6.trans s8
      have nah':ah≠st:=E6.off nah
      have nch':ch≠st:=E6.off nch
      refine ⟨_,rfl,fun kp1 dx1 nk1 nd1 hne1=>mk_read G8 nk1 nd1 fun sl1 x1 H9 s9 K9 nsl1 nx11 nx12=>?_⟩
      have G9:=G8.keep s9
      have S9:=S8.trans s9
      refine ⟨_,rfl,fun kp2 dx2 nk2 nd2 hne2=>mk_read G9 nk2 nd2 fun sl2 x2 H10 s10 K10 nsl2 nx21 nx22=>?_⟩
      have G10:=G9.keep s10
      have S10:=S9.trans s10
      refine ⟨sz (by simp),fun kl hkl=>?_⟩
      have t11:=same_upd (o:=.lst [V.ref kp1,V.ref kp2]) hkl
      have u11:(upd H10 kl (.lst [V.ref kp1,V.ref kp2])) kl=some (.lst [V.ref kp1,V.ref kp2]):=upd_same
      generalize upd H10 kl (.lst [V.ref kp1,V.ref kp2])=H11 at t11 u11⊢
      have K1a:=(K9.keep s10).keep t11
      refine ⟨_,rfl,.inl ⟨rfl,_,SqL.of u11⟩,_,rfl,kl,_,_,_,rfl,rfl,SqL.of u11,rfl,kp1,dx1,_,rfl,K1a.ob,stF_no (by decide +kernel),kp1,dx1,sl1,[x1],b,ps,[],ws0,rfl,K1a,fun ft at' ct H12 s12 G12 _ _ _=>fun kp3 dx3 nk3 nd3 hne3=>mk_read G12 nk3 nd3 fun sl3 x3 H13 s13 K13 nsl3 nx31 nx32=>?_⟩
      have t13:=s12.trans s13
      have u13:=t13 _ _ u11
      refine ⟨kl,_,_,rfl,rfl,u13,szl (by simp),?_⟩
      have k14:Kp [kl] H13 (upd H13 kl (.lst ([V.ref kp1,V.ref kp2]++[V.ref kp3]))):=kp_upd (Kp.of (Same.refl _)) (.inl (by simp))
      have u14:(upd H13 kl (.lst ([V.ref kp1,V.ref kp2]++[V.ref kp3]))) kl=_:=upd_same
      generalize upd H13 kl (.lst ([V.ref kp1,V.ref kp2]++[V.ref kp3]))=H14 at k14 u14⊢
      have t14:Same H10 H14:=same_kp (t11.trans t13) hkl k14
      have st14:=k14.stay u13 (by intro v hv;simp at hv;rcases hv with rfl | rfl <;> exact ⟨_,rfl⟩)
      have nsl3k:sl3≠kl:=fun z=>by rw [z,s12 _ _ u11] at nsl3;cases nsl3
      have K14c:=K13.stay st14 (by rw [k14 _ _ K13.ls (by simpa using nsl3k),K13.ls])
      have K14a:=(K9.keep s10).keep t14
      have K14b:=K10.keep t14
      have G14:=G10.keep t14
      have F14:=(((G6.keep s8).keep s9).keep s10).keep t14
      have E14:=(((E6.keep s8).keep s9).keep s10).keep t14
      have S14:=S10.trans t14
      -- the states
      refine ⟨_,rfl,by decide,by decide,comp_range (lo:=0) (n:=3) (fun i ys H'=>∃ ss:List (Addr×Addr×Addr×Addr×Addr),ys=ss.map (fun x=>V.ref x.1)∧ss.length=i∧Same H14 H'∧∀ x∈ss,StA H' x.1 x.2.1 x.2.2.1 x.2.2.2.1 x.2.2.2.2 [] b ps ws0 []∧x.2.2.1∉[st,ah,ch]∧x.2.2.2.1∉[st,ah,ch]) ⟨[],rfl,rfl,Same.refl _,by simp⟩ ?_ ?_⟩
      · rintro i ys H15 hi ⟨ss,rfl,hl,t15,hA⟩
        refine ⟨szl (by simp;lia),?_⟩
        refine ⟨_,rfl,f0,a,c0,b,ps,ws0,rfl,F14.keep t15,fun f1 a1 c1 H16 s16 G16 nf1 na1 nc1 _=>⟨sz (by simp),fun e1 he1=>⟨sz (by simp),fun s1 hs1=>?_⟩⟩⟩
        have t16:=same_upd (o:=.lst []) he1
        have u16:(upd H16 e1 (.lst [])) e1=some (.lst (([]:List Addr).map V.ref)):=upd_same
        generalize upd H16 e1 (.lst [])=H17 at t16 u16 hs1⊢
        have t17:=same_upd (o:=.tup [.ref f1,.ref e1]) hs1
        have u17:(upd H17 s1 (.tup [.ref f1,.ref e1])) s1=_:=upd_same
        generalize upd H17 s1 (.tup [.ref f1,.ref e1])=H18 at t17 u17⊢
        have T:=(s16.trans t16).trans t17
        have off:∀ z,H15 z=none→z∉[st,ah,ch]:=fun z hz hm=>by
          simp only [List.mem_cons,List.not_mem_nil,or_false] at hm
          rcases hm with rfl | rfl | rfl
          · exact (E14.keep t15).off hz rfl
          · rw [(G14.keep t15).hp] at hz;cases hz
          · rw [(G14.keep t15).hw] at hz;cases hz
        refine ⟨ss++[(s1,f1,a1,c1,e1)],by simp,by simp [hl],t15.trans T,fun x hx=>?_⟩
        rcases List.mem_append.mp hx with h | h
        · obtain ⟨h1,h2⟩:=hA x h
          exact ⟨h1.keep T,h2⟩
        · rw [List.mem_singleton.mp h]
          exact ⟨⟨u17,(G16.keep t16).keep t17,t17 _ _ u16,rfl,fun i k h h1 h2=>by simp at h1⟩,off _ na1,off _ nc1⟩
      rintro ys H15 ⟨ss,rfl,hl,t15,hA⟩ sts hsts
      have t16:=same_upd (o:=.lst (ss.map fun x=>V.ref x.1)) hsts
      have u16:(upd H15 sts (.lst (ss.map fun x=>V.ref x.1))) sts=_:=upd_same
      generalize upd H15 sts (.lst (ss.map fun x=>V.ref x.1))=H16 at t16 u16⊢
      obtain ⟨y1,y2,y3,rfl⟩:∃ y1 y2 y3,ss=[y1,y2,y3]:=by
        match ss,hl with
        | [y1,y2,y3],_=>exact ⟨y1,y2,y3,rfl⟩
      have T16:=t15.trans t16
      have off8:∀ z,H8 z=none→z∉[st,ah,ch]:=fun z hz hm=>by
        simp only [List.mem_cons,List.not_mem_nil,or_false] at hm
        rcases hm with rfl | rfl | rfl
        · exact (E6.keep s8).off hz rfl
        · rw [G8.hp] at hz;cases hz
        · rw [G8.hw] at hz;cases hz
      have h12:Same H8 H12:=((s9.trans s10).trans t11).trans s12
      have n12:sl1≠sl2:=fun z=>by rw [← z,K9.ls] at nsl2;cases nsl2
      have n13:sl1≠sl3:=fun z=>by rw [← z,s12 _ _ K1a.ls] at nsl3;cases nsl3
      have n23:sl2≠sl3:=fun z=>by rw [← z,s12 _ _ (t11 _ _ K10.ls)] at nsl3;cases nsl3
      have n1k:sl1≠kl:=fun z=>by rw [← z,s10 _ _ K9.ls] at hkl;cases hkl
      have n2k:sl2≠kl:=fun z=>by rw [← z,K10.ls] at hkl;cases hkl
      have n1s:sl1≠sts:=fun z=>by rw [← z,t15 _ _ K14a.ls] at hsts;cases hsts
      have n2s:sl2≠sts:=fun z=>by rw [← z,t15 _ _ K14b.ls] at hsts;cases hsts
      have n3s:sl3≠sts:=fun z=>by rw [← z,t15 _ _ K14c.ls] at hsts;cases hsts
      have nks:kl≠sts:=fun z=>by rw [← z,t15 _ _ u14] at hsts;cases hsts
      have mkW:∀ (kp dx sl:Addr) (x:AF) (y:Addr×Addr×Addr×Addr×Addr),KpAt C H14 kp dx sl [x] b ps [ws0]→H8 x.2.1=none→H8 x.2.2=none→y∈[y1,y2,y3]→W5 C H16 [st,ah,ch] b ps ⟨kp,dx,sl,[x],[],ws0,y.1,y.2.1,y.2.2.1,y.2.2.2.1,y.2.2.2.2,[],[]⟩:=fun kp dx sl x y Kz z1 z2 hy=>by
        obtain ⟨hA1,hA2,hA3⟩:=hA y hy
        refine ⟨Kz.keep T16,fun x' hx'=>?_,hA1.keep t16,hA2,hA3,fun h hh=>?_,rfl,fun i u v h h1 h2 h3=>?_⟩
        · rw [List.mem_singleton.mp hx'];exact ⟨off8 _ z1,off8 _ z2⟩
        · simp at hh
        · simp at h3
      obtain ⟨l0,el0⟩:∃ l0:List Kw,l0=[⟨kp1,dx1,sl1,[x1],[],ws0,y1.1,y1.2.1,y1.2.2.1,y1.2.2.2.1,y1.2.2.2.2,[],[]⟩,⟨kp2,dx2,sl2,[x2],[],ws0,y2.1,y2.2.1,y2.2.2.1,y2.2.2.2.1,y2.2.2.2.2,[],[]⟩,⟨kp3,dx3,sl3,[x3],[],ws0,y3.1,y3.2.1,y3.2.2.1,y3.2.2.2.1,y3.2.2.2.2,[],[]⟩]:=⟨_,rfl⟩
      have J16:J3 C H H16 st kl sts b ps l0 fh ah ch f0 a c0 ws0 0:=by
        refine ⟨⟨by rw [el0];rfl,by rw [el0];exact T16 _ _ u14,by rw [el0];exact u16,fun k hk=>?_,fun i j p q hp hq n=>?_,fun k hk=>?_,fun k hk=>?_,nks⟩,E14.keep T16,G14.keep T16,F14.keep T16,fun k hk=>?_,fun k hk=>?_,S14.free (t15.free hsts),S14.trans T16,nah',nch',na',nc',hq⟩
        · rw [el0] at hk
          simp only [List.mem_cons,List.not_mem_nil,or_false] at hk
          rcases hk with rfl | rfl | rfl
          · exact mkW _ _ _ _ y1 K14a nx11 nx12 (by simp)
          · exact mkW _ _ _ _ y2 K14b (s9.free nx21) (s9.free nx22) (by simp)
          · exact mkW _ _ _ _ y3 K14c (h12.free nx31) (h12.free nx32) (by simp)
        · rw [el0] at hp hq
          have hi:i<3:=(List.getElem?_eq_some_iff.mp hp).1
          have hj:j<3:=(List.getElem?_eq_some_iff.mp hq).1
          match i,j,hi,hj,n,hp,hq with
          | 0,0,_,_,n,_,_=>exact absurd rfl n
          | 0,1,_,_,_,hp,hq=>simp at hp hq;subst hp;subst hq;exact n12
          | 0,2,_,_,_,hp,hq=>simp at hp hq;subst hp;subst hq;exact n13
          | 1,0,_,_,_,hp,hq=>simp at hp hq;subst hp;subst hq;exact n12.symm
          | 1,1,_,_,n,_,_=>exact absurd rfl n
          | 1,2,_,_,_,hp,hq=>simp at hp hq;subst hp;subst hq;exact n23
          | 2,0,_,_,_,hp,hq=>simp at hp hq;subst hp;subst hq;exact n13.symm
          | 2,1,_,_,_,hp,hq=>simp at hp hq;subst hp;subst hq;exact n23.symm
          | 2,2,_,_,n,_,_=>exact absurd rfl n
        · rw [el0] at hk
          simp only [List.mem_cons,List.not_mem_nil,or_false] at hk
          rcases hk with rfl | rfl | rfl
          · exact n1k
          · exact n2k
          · exact nsl3k
        · rw [el0] at hk
          simp only [List.mem_cons,List.not_mem_nil,or_false] at hk
          rcases hk with rfl | rfl | rfl
          · exact n1s
          · exact n2s
          · exact n3s
        · rw [el0] at hk
          simp only [List.mem_cons,List.not_mem_nil,or_false] at hk
          rcases hk with rfl | rfl | rfl <;> exact Nat.le_refl _
        · rw [el0] at hk
          simp only [List.mem_cons,List.not_mem_nil,or_false] at hk
          rcases hk with rfl | rfl | rfl
          · exact S8.free nsl1
          · exact S9.free nsl2
          · exact S8.free (h12.free nsl3)
      clear el0 mkW hA
      refine ⟨_,rfl,st,15,rfl,J16.S,by decide,by decide,fun r H17 r0 r1 E17 k17=>?_⟩
      have J17:=J16.kst E17 k17
      refine ⟨_,rfl,by lia,by lia,for_range (n:=r.toNat) (fun j σ H'=>∃ l v7 v8 v9 v10 v11,σ=[some (.ref a0),some (.int (i:Int)),some (.ref st),some (.ref f0),some (.ref fh),some (.ref kl),some (.ref sts),v7,v8,v9,v10,v11]∧J3 C H H' st kl sts b ps l fh ah ch f0 a c0 ws0 j)
        ⟨l0,v7,v8,v9,v10,v11,rfl,J17⟩ ?_ ?_⟩
      · rintro j σ H18 hj ⟨l,v7,v8,v9,v10,v11,rfl,J18⟩
        have hj':j<15:=by lia
        refine ⟨_,rfl,st,3,rfl,J18.S,by decide,by decide,fun kz H19 kz0 kz1 E19 k19=>?_⟩
        have J19:=J18.kst E19 k19
        obtain ⟨kn,ekn⟩:∃ kn:Nat,kz=(kn:Int):=⟨kz.toNat,by lia⟩
        subst ekn
        have hkn:kn<l.length:=by rw [J18.I.len];lia
        obtain ⟨k0,hk0⟩:∃ k0,l[kn]?=some k0:=⟨_,List.getElem?_eq_getElem hkn⟩
        have m0:=List.mem_of_getElem? hk0
        have lk0:=J18.lj k0 m0
        have W19:=J19.I.U k0 m0
        have hli:k0.hist.length=k0.ini.length:=by have:=W19.ch.1;simp at this;lia
        have ats:atI (l.map fun x=>V.ref x.s) (kn:Int)=some (.ref k0.s):=atI_nat (by rw [List.getElem?_map,hk0];rfl)
        have atk:atI (l.map fun x=>V.ref x.kp) (kn:Int)=some (.ref k0.kp):=atI_nat (by rw [List.getElem?_map,hk0];rfl)
        refine ⟨_,rfl,_,rfl,_,rfl,sts,_,_,_,rfl,rfl,SqL.of J19.I.hs,ats,st,k0.s,k0.f,k0.a,k0.c,k0.e,k0.ks,b,ps,k0.ws,k0.hist,rfl,J19.S,W19.A,fun z=>W19.na (by simp [z]),fun z=>W19.nc (by simp [z]),fun dv d H20 E20 k20 D20=>?_⟩
        have J20:=J19.kst E20 k20
        have W20:=J20.I.U k0 m0
        apply via (I:=fun σ H'=>∃ l v10 v11,σ=[some (.ref a0),some (.int (i:Int)),some (.ref st),some (.ref f0),some (.ref fh),some (.ref kl),some (.ref sts),some (.int (0+(j:Int))),some (.int (kn:Int)),some dv,v10,v11]∧J3 C H H' st kl sts b ps l fh ah ch f0 a c0 ws0 (j+1))
        case main =>
          intro key
          refine ⟨_,rfl,_,rfl,sts,_,_,_,rfl,rfl,SqL.of J20.I.hs,ats,_,rfl,k0.s,k0.f,k0.a,k0.c,k0.e,k0.ks,b,ps,k0.ws,k0.hist,dv,d,rfl,W20.A,W20.hr,by lia,D20,fun wd H21 s21 hW=>?caseW,fun s1 f1 c1 e1 ks1 ws1 hist1 H21 s21 hD A21 nc1 hr1=>?caseS⟩
          case caseW =>
            have J21:=J20.keep s21
            have W21:=J21.I.U k0 m0
            have D21:=D20.keep s21
            have hwd:=hW.word
            refine ⟨_,rfl,_,rfl,kl,_,_,_,rfl,rfl,SqL.of J21.I.hk,atk,_,rfl,_,rfl,k0.kp,k0.dx,k0.sl,k0.as,b,ps,k0.ini,k0.ws,k0.hist,dv,.str wd,d,rfl,W21.K,hli,by lia,D21,?_,?_,?_⟩
            · intro i0 wz ai t H22 hd hini _ _ _ _ _
              exfalso
              subst hd
              rcases hW with ⟨_,eh,_⟩ | ⟨_,_,z,_⟩
              · rw [eh,hini] at hli;simp at hli
              · cases z
            · intro p xx t xn H22 hd hp h1 h2 _ _ _ _ _ _
              subst hd
              exact (hW.noW hp h1 h2).elim
            · intro wd' hW'
              refine ⟨wd,rfl,lay_wd hwd,fun H22 s22=>?_⟩
              rw [if_pos (hW'.uniq hW)]
              have J22:=J21.keep s22
              refine ⟨_,?_,key⟩
              refine ⟨_,rfl,_,_,_,_,rfl,.str wd,kit_sS,true,rfl,iteT ⟨_,rfl,_,rfl,?_⟩⟩
              refine L2.eq_self (datS _) (datS _) (lay_wd hwd) (by show (0:Nat)≤60;decide) ⟨_,rfl,iteF ?_⟩
              exact ⟨l,_,_,rfl,J22.le (Nat.le_succ _)⟩
          case caseS =>
            have J21:=J20.keep s21
            have W21:=J21.I.U k0 m0
            have D21:=D20.keep s21
            have hneW:=W21.K.ne
            have off:∀ z,H20 z=none→z∉[st,ah,ch]:=fun z hz hm=>by
              simp only [List.mem_cons,List.not_mem_nil,or_false] at hm
              rcases hm with rfl | rfl | rfl
              · exact J20.S.off hz rfl
              · rw [J20.Gh.hp] at hz;cases hz
              · rw [J20.Gh.hw] at hz;cases hz
            have off1:∀ z,H21 z=none→z∉[st,ah,ch]:=fun z hz=>off z (s21.free hz)
            refine ⟨_,rfl,_,rfl,kl,_,_,_,rfl,rfl,SqL.of J21.I.hk,atk,_,rfl,_,rfl,k0.kp,k0.dx,k0.sl,k0.as,b,ps,k0.ini,k0.ws,k0.hist,dv,.ref s1,d,rfl,W21.K,hli,by lia,D21,?_,?_,fun wd hW=>(hD.noW hW).elim⟩
            · intro i0 wz ai t H22 hd hini hsub nt ht K22 k22
              obtain ⟨h0,p,xx,_,eh,eh1,ew⟩:∃ h0 p xx,d=none∧k0.hist=h0++[(p,xx)]∧hist1=h0∧ws1=k0.ws.set p xx:=by
                rcases hD with h | ⟨p,xx,y,z,_⟩
                · exact h
                · rw [hd] at z;cases z
              have hch:=W21.ch
              rw [eh,hini] at hch
              obtain ⟨ewz,hch1⟩:=hch.undo
              rw [← ew] at ewz
              subst ewz
              have A22:=A21.ksl W21.K hneW k22
              have B22:=W21.A.ksl W21.K hneW k22
              have X22:W5 C H22 [st,ah,ch] b ps ⟨k0.kp,k0.dx,k0.sl,ai,i0,wz,s1,f1,k0.a,c1,e1,ks1,hist1⟩:=⟨K22,fun y hy=>W21.ko y (hsub y hy),A22,W21.na,off _ nc1,hr1,by rw [eh1];exact hch1⟩
              have hs22:H22 sts=some (.lst (l.map fun x=>V.ref x.s)):=k22 _ _ J21.I.hs (by simpa using (J21.I.ns k0 m0).symm)
              refine ⟨_,?_,key⟩
              refine ⟨_,rfl,_,_,_,_,rfl,.tup A22.hs,kit_tS,false,rfl,iteF ?_⟩
              refine ⟨_,rfl,_,rfl,_,rfl,sts,_,_,_,rfl,rfl,SqL.of hs22,ats,_,_,_,_,rfl,rfl,SqT.of B22.hs,rfl,k0.f,k0.a,k0.c,b,ps,k0.ws,rfl,B22.fr,fun H23 s23=>?_⟩
              have A23:=A22.keep s23
              refine ⟨_,rfl,_,_,_,_,rfl,rfl,SqT.of A23.hs,rfl,f1,k0.a,c1,b,ps,wz,rfl,A23.fr,fun H24 s24=>⟨sz (by simp),fun tt htt=>?_⟩⟩
              have t24:=s23.trans s24
              have s25:=same_upd (o:=.tup [.int (evN b ps k0.ws),.int (evN b ps (wz))]) htt
              refine L2.eq_self (datT (s25 _ _ (t24 _ _ ht)) (.cons (datI _) (.cons (datI _) .nil))) (datT upd_same (.cons (datI _) (.cons (datI _) .nil))) rfl (by simp [PyData.depth,PyData.depthAll]) ⟨_,rfl,iteF ?_⟩
              have T25:=t24.trans s25
              have hs25:=T25 _ _ hs22
              refine ⟨_,rfl,_,rfl,_,rfl,sts,_,_,kn,rfl,rfl,hs25,ixN_nat (by rw [List.length_map];exact hkn),?_⟩
              exact ⟨l.set kn _,_,_,rfl,J21.step (k1:=⟨k0.kp,k0.dx,k0.sl,ai,i0,wz,s1,f1,k0.a,c1,e1,ks1,hist1⟩) hk0 k22 rfl rfl X22 (by show i0.length≤j+1;rw [hini] at lk0;simp at lk0;lia) T25 (kp_upd (Kp.of (Same.refl _)) (.inl (by simp))) upd_same⟩
            · intro p xx t xn H22 hd hp h1 h2 nt ht nxa nxc K22 k22
              obtain ⟨y,hy,ew,eh1⟩:∃ y,k0.ws[p]?=some y∧ws1=k0.ws.set p xx∧hist1=k0.hist++[(p,y)]:=by
                rcases hD with ⟨_,_,_,z,_⟩ | ⟨p',xx',y,z,_,_,_,hy,ew,eh⟩
                · rw [hd] at z;cases z
                · rw [hd] at z
                  injection z with z
                  injection z with z1 z2
                  injection z1 with z1
                  injection z2 with z2
                  have z1':p=p':=by lia
                  subst z1';subst z2
                  exact ⟨y,hy,ew,eh⟩
              subst ew
              have A22:=A21.ksl W21.K hneW k22
              have B22:=W21.A.ksl W21.K hneW k22
              have X22:W5 C H22 [st,ah,ch] b ps ⟨k0.kp,k0.dx,k0.sl,k0.as++[xn],k0.ini++[k0.ws],k0.ws.set p xx,s1,f1,k0.a,c1,e1,ks1,hist1⟩:=⟨K22,fun y hy=>by
                rcases List.mem_append.mp hy with h | h
                · exact W21.ko y h
                · rw [List.mem_singleton.mp h];exact ⟨off1 _ nxa,off1 _ nxc⟩,A22,W21.na,off _ nc1,hr1,by rw [eh1];exact W21.ch.weigh hy⟩
              have hs22:H22 sts=some (.lst (l.map fun x=>V.ref x.s)):=k22 _ _ J21.I.hs (by simpa using (J21.I.ns k0 m0).symm)
              refine ⟨_,?_,key⟩
              refine ⟨_,rfl,_,_,_,_,rfl,.tup A22.hs,kit_tS,false,rfl,iteF ?_⟩
              refine ⟨_,rfl,_,rfl,_,rfl,sts,_,_,_,rfl,rfl,SqL.of hs22,ats,_,_,_,_,rfl,rfl,SqT.of B22.hs,rfl,k0.f,k0.a,k0.c,b,ps,k0.ws,rfl,B22.fr,fun H23 s23=>?_⟩
              have A23:=A22.keep s23
              refine ⟨_,rfl,_,_,_,_,rfl,rfl,SqT.of A23.hs,rfl,f1,k0.a,c1,b,ps,(k0.ws.set p xx),rfl,A23.fr,fun H24 s24=>⟨sz (by simp),fun tt htt=>?_⟩⟩
              have t24:=s23.trans s24
              have s25:=same_upd (o:=.tup [.int (evN b ps k0.ws),.int (evN b ps ((k0.ws.set p xx)))]) htt
              refine L2.eq_self (datT (s25 _ _ (t24 _ _ ht)) (.cons (datI _) (.cons (datI _) .nil))) (datT upd_same (.cons (datI _) (.cons (datI _) .nil))) rfl (by simp [PyData.depth,PyData.depthAll]) ⟨_,rfl,iteF ?_⟩
              have T25:=t24.trans s25
              have hs25:=T25 _ _ hs22
              refine ⟨_,rfl,_,rfl,_,rfl,sts,_,_,kn,rfl,rfl,hs25,ixN_nat (by rw [List.length_map];exact hkn),?_⟩
              exact ⟨l.set kn _,_,_,rfl,J21.step (k1:=⟨k0.kp,k0.dx,k0.sl,k0.as++[xn],k0.ini++[k0.ws],k0.ws.set p xx,s1,f1,k0.a,c1,e1,ks1,hist1⟩) hk0 k22 rfl rfl X22 (by show (k0.ini++[k0.ws]).length≤j+1;simp;lia) T25 (kp_upd (Kp.of (Same.refl _)) (.inl (by simp))) upd_same⟩
        case key =>
          rintro σ H21 ⟨l,v10,v11,rfl,J21⟩
          refine ⟨_,rfl,st,3,rfl,J21.S,by decide,by decide,fun r1 H22 r10 r11 E22 k22=>⟨rfl,_,rfl,?_⟩⟩
          have J22:=J21.kst E22 k22
          refine ite2 (fun _=>?_) (fun _=>iteF ⟨l,_,_,_,_,_,rfl,J22⟩)
          refine ⟨_,rfl,_,rfl,_,rfl,st,5,rfl,J22.S,by decide,by decide,fun r2 H23 r20 r21 E23 k23=>?_⟩
          have J23:=J22.kst E23 k23
          obtain ⟨d2,ed2⟩:∃ d2:Nat,r2=(d2:Int):=⟨r2.toNat,by lia⟩
          subst ed2
          refine ⟨kl,sts,l,[st,ah,ch],b,ps,d2,rfl,J23.I.hk,J23.I.hs,by rw [J23.I.len];decide,fun k hk=>⟨J23.I.U k hk,by have:=J23.lj k hk;lia⟩,fun H24 s24=>⟨_,rfl,iteF ?_⟩⟩
          exact ⟨l,_,_,_,_,_,rfl,J23.keep s24⟩
      · rintro σ H18 ⟨l,v7,v8,v9,v10,v11,rfl,J18⟩
        refine ⟨_,rfl,_,rfl,L2.eq_self J18.Gh.dat J18.Gf.dat (frD_lay _ _ _) (frD_depth _ _ _) ⟨_,rfl,iteF ?_⟩⟩
        have hl0:0<ws0.length:=by have:=ok.wl;have:=ok.sum;lia
        obtain ⟨w0,ew0,_⟩:=at_ints (ns:=ws0) (i:=0) (Pr:=fun _=>True) (by decide) (by lia) (fun _ _=>trivial)
        refine ⟨_,rfl,_,_,_,_,rfl,rfl,SqT.of J18.Gh.tp,rfl,ch,_,_,_,rfl,rfl,SqL.of J18.Gh.hw,ew0,_,_,rfl,rfl,_,_,rfl,rfl,(by show (0:Int)<19;decide),_,_,rfl,rfl,_,rfl,_,_,_,_,rfl,rfl,SqT.of J18.Gh.tp,rfl,ch,_,_,0,rfl,rfl,J18.Gh.hw,ixN_nat (p:=0) (by rw [List.length_map];exact hl0),?_⟩
        have k19:Kp [ch] H18 (upd H18 ch (.lst ((ws0.map V.int).set 0 (V.int ((w0+10) % 19 - 9))))):=kp_upd (Kp.of (Same.refl _)) (.inl (by simp))
        generalize upd H18 ch (.lst ((ws0.map V.int).set 0 (V.int ((w0+10) % 19 - 9))))=H19 at k19⊢
        have I19:=J18.I.kni J18.Gh.niw (by simp) k19
        have tp19:=k19 _ _ J18.Gh.tp (by simpa using J18.Gh.niw.ne J18.Gh.tp (fun _ _ z=>by cases z))
        have hp19:=k19 _ _ J18.Gh.hp (by simpa using nac)
        have n19:NI H19 ah:=by
          obtain ⟨g,xs,hg⟩:=J18.Gh.nip
          exact ⟨g,xs,k19 _ _ hg (by simpa using nac)⟩
        refine ⟨_,rfl,_,_,_,_,rfl,rfl,SqT.of tp19,rfl,.inl ⟨rfl,_,SqL.of hp19⟩,ah,_,rfl,rfl,hp19,?_⟩
        have k20:Kp [ah] H19 (upd H19 ah (.lst [])):=kp_upd (Kp.of (Same.refl _)) (.inl (by simp))
        generalize upd H19 ah (.lst [])=H20 at k20⊢
        have I20:=I19.kni n19 (by simp) k20
        refine ⟨_,rfl,_,rfl,kl,sts,l,[st,ah,ch],b,ps,1,rfl,I20.hk,I20.hs,by rw [I20.len];decide,fun k hk=>⟨I20.U k hk,by have:=J18.lj k hk;lia⟩,fun H21 s21=>⟨_,rfl,iteF ?_⟩⟩
        exact ⟨_,_,_,_,_,_,_,_,_,_,_,rfl,(same_kp (same_kp J18.sm (S6.free nch) k19) (S6.free nah) k20).trans s21⟩
    · rintro σ H2 ⟨v1,v2,v3,v4,v5,v6,v7,v8,v9,v10,v11,rfl,s2⟩
      exact k _
end
end Hv
namespace Hv
open PySem L2
structure FnIn (K:PySem.W.Frag) (x:Str) (st:Stmt):Prop where
  ex:∃ (f:Addr) (oc:Value) (od an:Option Addr) (osl:Array (Option Value)) (kV doc pm cdv ct:Value),PySem.W.nsIn K mainGlobals x=some (some (.ref f))∧
    K.lookup f=some ⟨oc,od,.func (PySem.W.fnOf x x (defArgs st) (defBody st) (defScope st) .none kV doc pm an cdv ct),osl⟩∧PySem.W.codeIn K cdv x=true∧PySem.W.keepIn K (.ref f)=true
theorem fn_in {K:PySem.W.Frag} {x:Str} {st:Stmt} {f:Addr} {oc:Value} {od an:Option Addr} {osl:Array (Option Value)} {kV doc pm cdv ct:Value} (a:PySem.W.nsIn K mainGlobals x=some (some (.ref f)))
    (l:K.lookup f=some ⟨oc,od,.func (PySem.W.fnOf x x (defArgs st) (defBody st) (defScope st) .none kV doc pm an cdv ct),osl⟩) (c:PySem.W.codeIn K cdv x=true) (k:PySem.W.keepIn K (.ref f)=true):FnIn K x st:=⟨f,oc,od,an,osl,kV,doc,pm,cdv,ct,a,l,c,k⟩
structure TxtIn (K:PySem.W.Frag):Prop where
  isi:PySem.W.nsIn K mainGlobals "isinstance"=some none
  int:PySem.W.nsIn K mainGlobals "int"=some none
  bool:PySem.W.nsIn K mainGlobals "bool"=some none
  list:PySem.W.nsIn K mainGlobals "list"=some none
  tuple:PySem.W.nsIn K mainGlobals "tuple"=some none
  all:PySem.W.nsIn K mainGlobals "all"=some none
  len:PySem.W.nsIn K mainGlobals "len"=some none
  sum:PySem.W.nsIn K mainGlobals "sum"=some none
  range:PySem.W.nsIn K mainGlobals "range"=some none
  max:PySem.W.nsIn K mainGlobals "max"=some none
  min:PySem.W.nsIn K mainGlobals "min"=some none
  rev:PySem.W.nsIn K mainGlobals "reversed"=some none
  zip:PySem.W.nsIn K mainGlobals "zip"=some none
  enum:PySem.W.nsIn K mainGlobals "enumerate"=some none
theorem us0 {p:List Value→Prop} (h:p []) (us:List Value) (hl:us.length=0):p us:=by rw [List.eq_nil_of_length_eq_zero hl];exact h
theorem usS {n:Nat} {p:List Value→Prop} (h:∀ a r,r.length=n→p (a::r)) (us:List Value) (hl:us.length=n+1):p us:=by
  cases us with
  | nil=>cases hl
  | cons a r=>exact h a r (Nat.succ.inj hl)
theorem us1 {p:List Value→Prop} (h:∀ a,p [a]):∀ us:List Value,us.length=1→p us:=usS fun a=>us0 (p:=fun r=>p (a::r)) (h a)
theorem us2 {p:List Value→Prop} (h:∀ a b,p [a,b]):∀ us:List Value,us.length=2→p us:=usS fun a=>us1 (p:=fun r=>p (a::r)) (h a)
theorem us3 {p:List Value→Prop} (h:∀ a b c,p [a,b,c]):∀ us:List Value,us.length=3→p us:=usS fun a=>us2 (p:=fun r=>p (a::r)) (h a)
section
variable {P:Program} {w:World} {K:PySem.W.Frag} {mg:Str→Option Value} {base h:Heap}
theorem TxtIn.txt (T:TxtIn K) (X:K.In h) (G:h.Ns mainGlobals mg):Txt mg :=
  have e:∀ x,PySem.W.nsIn K mainGlobals x=some none→mg x=none:=fun x z=>PySem.W.mg_none_of X G z
  ⟨e _ T.isi,e _ T.int,e _ T.bool,e _ T.list,e _ T.tuple,e _ T.all,e _ T.len,e _ T.sum,e _ T.range,e _ T.max,e _ T.min,e _ T.rev,e _ T.zip,e _ T.enum⟩
theorem def_of {x:Str} {st:Stmt} {k:Nat} {ps:List Str} {sp:Sp} (D:FnIn K x st) (X:K.In h) (G:h.Ns mainGlobals mg) (ok:∀ f fd,Fun K x x st f fd→FnOk P w K mg base CX0 k f fd ps sp)
    (hb:∀ (kV doc pm:Value) (an:Option Addr) (cdv ct:Value) (us:List Value),us.length=ps.length→bindArgs (PySem.W.fnOf x x (defArgs st) (defBody st) (defScope st) .none kV doc pm an cdv ct) ⟨us,[]⟩=pure (ps.zip us)):Def P w K mg base k x ps sp:=by
  obtain ⟨f,oc,od,an,osl,kV,doc,pm,cdv,ct,a,l,c,kp⟩:=D.ex
  have F:=fun_mk (st:=st) l c kp
  exact ⟨f,_,ok _ _ F,PySem.W.mg_of X G a,kp,F.binds hb⟩
end
end Hv
namespace Hv
open PySem L2
theorem def1_of {P:Program} {w:World} {K:PySem.W.Frag} {mg:Str→Option Value} {base h:Heap} {x:Str} {st:Stmt} {k:Nat} {ps:List Str} {sp:Sp} (D:FnIn K x st) (X:K.In h) (G:h.Ns mainGlobals mg) (ok:∀ f fd,Fun K x x st f fd→FnOk P w K mg base (CX1 P w) k f fd ps sp)
    (hb:∀ (kV doc pm:Value) (an:Option Addr) (cdv ct:Value) (us:List Value),us.length=ps.length→bindArgs (PySem.W.fnOf x x (defArgs st) (defBody st) (defScope st) .none kV doc pm an cdv ct) ⟨us,[]⟩=pure (ps.zip us)):Def1 P w K mg base k x ps sp:=by
  obtain ⟨f,oc,od,an,osl,kV,doc,pm,cdv,ct,a,l,c,kp⟩:=D.ex
  have F:=fun_mk (st:=st) l c kp
  exact ⟨f,_,ok _ _ F,PySem.W.mg_of X G a,kp,F.binds hb⟩
end Hv
namespace Hv
open PySem L2
structure MthIn (K:PySem.W.Frag) (C:Addr) (m qual:Str) (st:Stmt):Prop where
  ex:∃ (f:Addr) (oc:Value) (od an:Option Addr) (osl:Array (Option Value)) (kV doc pm cdv ct:Value),PySem.W.findIn K (.ref C) m=some (some (.ref f))∧PySem.W.isFn K (.ref f)=true∧
    K.lookup f=some ⟨oc,od,.func (PySem.W.fnOf m qual (defArgs st) (defBody st) (defScope st) .none kV doc pm an cdv ct),osl⟩∧PySem.W.codeIn K cdv qual=true∧PySem.W.keepIn K (.ref f)=true
theorem mth_in {K:PySem.W.Frag} {C:Addr} {m qual:Str} {st:Stmt} {f:Addr} {oc:Value} {od an:Option Addr} {osl:Array (Option Value)} {kV doc pm cdv ct:Value} (a:PySem.W.findIn K (.ref C) m=some (some (.ref f))) (i:PySem.W.isFn K (.ref f)=true)
    (l:K.lookup f=some ⟨oc,od,.func (PySem.W.fnOf m qual (defArgs st) (defBody st) (defScope st) .none kV doc pm an cdv ct),osl⟩) (c:PySem.W.codeIn K cdv qual=true) (k:PySem.W.keepIn K (.ref f)=true):MthIn K C m qual st:=⟨f,oc,od,an,osl,kV,doc,pm,cdv,ct,a,i,l,c,k⟩
section
variable {P:Program} {w:World} {K:PySem.W.Frag} {mg:Str→Option Value} {base:Heap}
theorem mdef_of {C:Addr} {m qual:Str} {st:Stmt} {k:Nat} {ps:List Str} {sp:Sp} (D:MthIn K C m qual st) (ok:∀ f fd,Fun K m qual st f fd→FnOk P w K mg base CX0 k f fd ps sp)
    (hb:∀ (kV doc pm:Value) (an:Option Addr) (cdv ct:Value) (us:List Value),us.length=ps.length→bindArgs (PySem.W.fnOf m qual (defArgs st) (defBody st) (defScope st) .none kV doc pm an cdv ct) ⟨us,[]⟩=pure (ps.zip us)):MDef P w K mg base k C m ps sp:=by
  obtain ⟨f,oc,od,an,osl,kV,doc,pm,cdv,ct,a,i,l,c,kp⟩:=D.ex
  have F:=fun_mk (st:=st) l c kp
  exact ⟨f,_,ok _ _ F,⟨a,i,kp⟩,F.binds hb⟩
theorem cdef_of {C:Addr} {x qual:Str} {st:Stmt} {k:Nat} {ps:List Str} {sp:Sp} (D:MthIn K C "__init__" qual st) (mk:PySem.W.makesIn K C=true) (kc:PySem.W.keepIn K (.ref C)=true) (hx:mg x=some (.ref C)) (ok:∀ f fd,Fun K "__init__" qual st f fd→FnOk P w K mg base CX0 k f fd ps sp)
    (hb:∀ (kV doc pm:Value) (an:Option Addr) (cdv ct:Value) (us:List Value),us.length=ps.length→bindArgs (PySem.W.fnOf "__init__" qual (defArgs st) (defBody st) (defScope st) .none kV doc pm an cdv ct) ⟨us,[]⟩=pure (ps.zip us)):CDef P w K mg base k x C ps sp:=by
  obtain ⟨f,oc,od,an,osl,kV,doc,pm,cdv,ct,a,i,l,c,kp⟩:=D.ex
  have F:=fun_mk (st:=st) l c kp
  exact ⟨f,_,ok _ _ F,⟨mk,a,i,kc⟩,hx,F.binds hb⟩
end
end Hv
namespace Hv
open PySem L2
section
variable {P:Program} {w:World} {K:PySem.W.Frag} {mg:Str→Option Value} {base:Heap}
theorem mdef1_of {C:Addr} {m qual:Str} {st:Stmt} {k:Nat} {ps:List Str} {sp:Sp} (D:MthIn K C m qual st) (ok:∀ f fd,Fun K m qual st f fd→FnOk P w K mg base (CX1 P w) k f fd ps sp)
    (hb:∀ (kV doc pm:Value) (an:Option Addr) (cdv ct:Value) (us:List Value),us.length=ps.length→bindArgs (PySem.W.fnOf m qual (defArgs st) (defBody st) (defScope st) .none kV doc pm an cdv ct) ⟨us,[]⟩=pure (ps.zip us)):MDef1 P w K mg base k C m ps sp:=by
  obtain ⟨f,oc,od,an,osl,kV,doc,pm,cdv,ct,a,i,l,c,kp⟩:=D.ex
  have F:=fun_mk (st:=st) l c kp
  exact ⟨f,_,ok _ _ F,⟨a,i,kp⟩,F.binds hb⟩
end
end Hv
namespace Hv
open PySem L2
theorem all_mk {l:PySem.W.OpenLaw} {w:World} {K:PySem.W.Frag} {h:Heap} {mg:Str→Option Value} {fa:Addr} (X:K.In h) (G:h.Ns mainGlobals mg) (hfa:mg "law"=some (.ref fa)) (TI:TxtIn K)
    (i0:FnIn K "is_whole" sWhole)
    (i1:FnIn K "is_between" sBetw)
    (i2:FnIn K "is_list_between" sLBetw)
    (i3:FnIn K "is_frame" sIsFrame)
    (i4:FnIn K "need_frame" sNeedFrame)
    (i5:FnIn K "cut_by_parts" sCut)
    (i6:FnIn K "with_one_more_figure" sOneMore)
    (i7:FnIn K "ways_of_weights" sWaysW)
    (i8:FnIn K "ways_of_parts" sWaysParts)
    (i9:FnIn K "ways_with" sWaysWith)
    (i10:FnIn K "even_by_sums" sEvenBy)
    (i11:FnIn K "count_even" sCountEven)
    (i12:FnIn K "need_miss" sNeedMiss)
    (i13:FnIn K "running_counts" sRunning)
    (i14:FnIn K "ways_within" sWithin)
    (i15:FnIn K "count_spread_within" sSpreadW)
    (i16:FnIn K "count_near" sCountNear)
    (i17:FnIn K "copy_of" sCopyOf)
    (i18:FnIn K "with_weight" sWithWeight)
    (i19:FnIn K "_law_cell" sCell)
    (i20:FnIn K "_law_store" sStore)
    (i21:FnIn K "_law_take" sTake)
    (i22:FnIn K "_law_frame" sFrame)
    (i23:FnIn K "_law_kind" sLawKind)
    (i24:FnIn K "_law_is_from" sLawIsFrom)
    (i25:FnIn K "_law_due" sDue)
    (i26:FnIn K "_law_deed" sLawDeed)
    (i27:FnIn K "_law_asked" sLawAsked)
    (i28:FnIn K "_law_part" sLawPart)
    (i29:FnIn K "_law_cut" sLawCut)
    (i30:FnIn K "_law_even" sLawEven)
    (i31:FnIn K "_law_near" sNear)
    (i32:FnIn K "_law_copy" sCopy)
    (i33:FnIn K "_law_stand" sLawStand)
    {C:Addr} (aC:PySem.W.nsIn K mainGlobals "Keeper"=some (some (.ref C))) (pgC:PySem.W.plainGet K C Str.empty=true) (hdC:PySem.W.hasDictIn K C=true) (poC:PySem.W.plainOver K C=true) (saC:PySem.W.findIn K (.ref C) "__setattr__"=some (some (.builtin "object.__setattr__"))) (mkC:PySem.W.makesIn K C=true) (kC:PySem.W.keepIn K (.ref C)=true) (nS:PySem.W.findIn K (.ref C) "standing"=some none)
    (jm0:MthIn K C "__init__" "Keeper.__init__" sKeeperInit)
    (jm1:MthIn K C "changes" "Keeper.changes" sKeeperChanges)
    (jm2:MthIn K C "frame" "Keeper.frame" sKeeperFrame)
    (jm3:MthIn K C "near" "Keeper.near" sKeeperNear)
    (jm4:MthIn K C "weigh" "Keeper.weigh" sKeeperWeigh)
    (jm5:MthIn K C "undo" "Keeper.undo" sKeeperUndo)
    {cB c0 c1 c2 c3 c4 c5 c6 c7 c8 c9:Addr} (eB:PySem.W.nsIn K mainGlobals "HalfError"=some (some (.ref cB)))
    (e0:PySem.W.nsIn K mainGlobals "NoFrame"=some (some (.ref c0)))
    (e1:PySem.W.nsIn K mainGlobals "NoNumber"=some (some (.ref c1)))
    (e2:PySem.W.nsIn K mainGlobals "NoPart"=some (some (.ref c2)))
    (e3:PySem.W.nsIn K mainGlobals "NoSum"=some (some (.ref c3)))
    (e4:PySem.W.nsIn K mainGlobals "NoMiss"=some (some (.ref c4)))
    (e5:PySem.W.nsIn K mainGlobals "NoEven"=some (some (.ref c5)))
    (e6:PySem.W.nsIn K mainGlobals "NoFrames"=some (some (.ref c6)))
    (e7:PySem.W.nsIn K mainGlobals "NoText"=some (some (.ref c7)))
    (e8:PySem.W.nsIn K mainGlobals "NoName"=some (some (.ref c8)))
    (e9:PySem.W.nsIn K mainGlobals "NoRow"=some (some (.ref c9)))
    (tB:PySem.W.typeIn K (.ref cB)=some (.type "type")) (mB:PySem.W.mroIn K cB (.type "BaseException")=some true)
    (q1:PySem.W.excIn K c1 [.type "ValueError",.type "Exception",.type "BaseException",.type "object"] "ValueError.__new__"=true) (m1:PySem.W.mroIn K c1 (.ref cB)=some true) (l1:ClsE K c1) (v1:PySem.W.kitOne K (.ref c1) (.type "ValueError")=some true)
    (k1_0:PySem.W.kitOne K (.ref c1) (.ref c0)=some false)
    (k1_1:PySem.W.kitOne K (.ref c1) (.ref c1)=some true)
    (k1_2:PySem.W.kitOne K (.ref c1) (.ref c2)=some false)
    (k1_3:PySem.W.kitOne K (.ref c1) (.ref c3)=some false)
    (k1_4:PySem.W.kitOne K (.ref c1) (.ref c4)=some false)
    (k1_5:PySem.W.kitOne K (.ref c1) (.ref c5)=some false)
    (k1_6:PySem.W.kitOne K (.ref c1) (.ref c6)=some false)
    (k1_7:PySem.W.kitOne K (.ref c1) (.ref c7)=some false)
    (k1_8:PySem.W.kitOne K (.ref c1) (.ref c8)=some false)
    (k1_9:PySem.W.kitOne K (.ref c1) (.ref c9)=some false)
    (q2:PySem.W.excIn K c2 [.type "ValueError",.type "Exception",.type "BaseException",.type "object"] "ValueError.__new__"=true) (m2:PySem.W.mroIn K c2 (.ref cB)=some true) (l2:ClsE K c2) (v2:PySem.W.kitOne K (.ref c2) (.type "ValueError")=some true)
    (k2_0:PySem.W.kitOne K (.ref c2) (.ref c0)=some false)
    (k2_1:PySem.W.kitOne K (.ref c2) (.ref c1)=some false)
    (k2_2:PySem.W.kitOne K (.ref c2) (.ref c2)=some true)
    (k2_3:PySem.W.kitOne K (.ref c2) (.ref c3)=some false)
    (k2_4:PySem.W.kitOne K (.ref c2) (.ref c4)=some false)
    (k2_5:PySem.W.kitOne K (.ref c2) (.ref c5)=some false)
    (k2_6:PySem.W.kitOne K (.ref c2) (.ref c6)=some false)
    (k2_7:PySem.W.kitOne K (.ref c2) (.ref c7)=some false)
    (k2_8:PySem.W.kitOne K (.ref c2) (.ref c8)=some false)
    (k2_9:PySem.W.kitOne K (.ref c2) (.ref c9)=some false)
    (ndict:PySem.W.nsIn K mainGlobals "dict"=some none)
    (nsorted:PySem.W.nsIn K mainGlobals "sorted"=some none)
    (nstr:PySem.W.nsIn K mainGlobals "str"=some none)
    (nValueError:PySem.W.nsIn K mainGlobals "ValueError"=some none)
    (jl:FnIn K "law" sLaw) :
    ∃ fd:FuncData,(∀ (s:Shared) (v:Value),BindsTo s fd ⟨[v],[]⟩ [("script",v)])∧∀ base:Heap,K.In base→base.Ns mainGlobals mg→FnOk l.prog w K mg base CX0 10 fa fd ["script"] (spLaw K):=by
  have T:=TI.txt X G
  obtain ⟨f,oc,od,an,osl,kV,doc,pm,cdv,ct,a,lk,c,kp⟩:=jl.ex
  have e:=hfa.symm.trans (PySem.W.mg_of X G a)
  cases e
  have F:=fun_mk (st:=sLaw) lk c kp
  refine ⟨PySem.W.fnOf "law" "law" (defArgs sLaw) (defBody sLaw) (defScope sLaw) .none kV doc pm an cdv ct,fun s v=>.of_eq rfl,fun base BX _=>?_⟩
  have ndict:mg "dict"=none:=PySem.W.mg_none_of X G ndict
  have nsorted:mg "sorted"=none:=PySem.W.mg_none_of X G nsorted
  have nstr:mg "str"=none:=PySem.W.mg_none_of X G nstr
  have nValueError:mg "ValueError"=none:=PySem.W.mg_none_of X G nValueError
  have en:ErrNames mg (cs [c0,c1,c2,c3,c4,c5,c6,c7,c8,c9]):=⟨PySem.W.mg_of X G e0,PySem.W.mg_of X G e1,PySem.W.mg_of X G e2,PySem.W.mg_of X G e3,PySem.W.mg_of X G e4,PySem.W.mg_of X G e5,PySem.W.mg_of X G e6,PySem.W.mg_of X G e7,PySem.W.mg_of X G e8,PySem.W.mg_of X G e9,nValueError⟩
  have o1:=own_e PySem.F.excBase_ValueError BX q1
  have u1:Up K c1 cB:=⟨m1,mB,tB⟩
  have y1:Kind K (cs [c0,c1,c2,c3,c4,c5,c6,c7,c8,c9]) c1 1:=⟨l1,by decide,fun j hj=>match j,hj with | 0,_=>k1_0 | 1,_=>k1_1 | 2,_=>k1_2 | 3,_=>k1_3 | 4,_=>k1_4 | 5,_=>k1_5 | 6,_=>k1_6 | 7,_=>k1_7 | 8,_=>k1_8 | 9,_=>k1_9,v1⟩
  have o2:=own_e PySem.F.excBase_ValueError BX q2
  have u2:Up K c2 cB:=⟨m2,mB,tB⟩
  have y2:Kind K (cs [c0,c1,c2,c3,c4,c5,c6,c7,c8,c9]) c2 2:=⟨l2,by decide,fun j hj=>match j,hj with | 0,_=>k2_0 | 1,_=>k2_1 | 2,_=>k2_2 | 3,_=>k2_3 | 4,_=>k2_4 | 5,_=>k2_5 | 6,_=>k2_6 | 7,_=>k2_7 | 8,_=>k2_8 | 9,_=>k2_9,v2⟩
  have cl:Cls K C:=⟨pgC,hdC,poC,saC⟩
  have d_is_whole:Def l.prog w K mg base 1 "is_whole" ["thing"] spWhole:=def_of i0 X G (fun _ _ F=>ok_whole F T) fun _ _ _ _ _ _=>us1 fun _=>rfl
  have d_is_between:Def l.prog w K mg base 2 "is_between" ["thing","least","greatest"] spBetw:=def_of i1 X G (fun _ _ F=>ok_betw F d_is_whole) fun _ _ _ _ _ _=>us3 fun _ _ _=>rfl
  have d_is_list_between:Def l.prog w K mg base 3 "is_list_between" ["thing","least","greatest"] spLBetw:=def_of i2 X G (fun _ _ F=>ok_lbetw F T d_is_between) fun _ _ _ _ _ _=>us3 fun _ _ _=>rfl
  have d_is_frame:Def l.prog w K mg base 4 "is_frame" ["thing"] spIsFrame:=def_of i3 X G (fun _ _ F=>ok_isframe F T d_is_between d_is_list_between) fun _ _ _ _ _ _=>us1 fun _=>rfl
  have d_need_frame:Def l.prog w K mg base 5 "need_frame" ["thing"] spNeedFrame:=def_of i4 X G (fun _ _ F=>ok_needframe F d_is_frame) fun _ _ _ _ _ _=>us1 fun _=>rfl
  have d_cut_by_parts:Def l.prog w K mg base 1 "cut_by_parts" ["frame","row"] spCut:=def_of i5 X G (fun _ _ F=>ok_cut F) fun _ _ _ _ _ _=>us2 fun _ _=>rfl
  have d_with_one_more_figure:Def l.prog w K mg base 1 "with_one_more_figure" ["ways","base","weight"] spOneMore:=def_of i6 X G (fun _ _ F=>ok_onemore F T) fun _ _ _ _ _ _=>us3 fun _ _ _=>rfl
  have d_ways_of_weights:Def l.prog w K mg base 2 "ways_of_weights" ["base","weights"] spWaysW:=def_of i7 X G (fun _ _ F=>ok_waysw F T ndict nsorted d_with_one_more_figure) fun _ _ _ _ _ _=>us2 fun _ _=>rfl
  have d_ways_of_parts:Def l.prog w K mg base 3 "ways_of_parts" ["frame"] spWaysParts:=def_of i8 X G (fun _ _ F=>ok_waysparts F T d_cut_by_parts d_ways_of_weights) fun _ _ _ _ _ _=>us1 fun _=>rfl
  have d_ways_with:Def l.prog w K mg base 1 "ways_with" ["ways_by_part","total"] spWaysWith:=def_of i9 X G (fun _ _ F=>ok_wayswith F) fun _ _ _ _ _ _=>us2 fun _ _=>rfl
  have d_even_by_sums:Def l.prog w K mg base 6 "even_by_sums" ["frame"] spEvenBy:=def_of i10 X G (fun _ _ F=>ok_evenby F d_need_frame d_ways_of_parts d_ways_with) fun _ _ _ _ _ _=>us1 fun _=>rfl
  have d_count_even:Def l.prog w K mg base 7 "count_even" ["frame"] spCountEven:=def_of i11 X G (fun _ _ F=>ok_counteven F T d_even_by_sums) fun _ _ _ _ _ _=>us1 fun _=>rfl
  have d_need_miss:Def l.prog w K mg base 2 "need_miss" ["thing"] spNeedMiss:=def_of i12 X G (fun _ _ F=>ok_needmiss F d_is_whole) fun _ _ _ _ _ _=>us1 fun _=>rfl
  have d_running_counts:Def l.prog w K mg base 1 "running_counts" ["ways","low","high"] spRunning:=def_of i13 X G (fun _ _ F=>ok_running F T) fun _ _ _ _ _ _=>us3 fun _ _ _=>rfl
  have d_ways_within:Def l.prog w K mg base 1 "ways_within" ["running_by_part","start","end"] spWithin:=def_of i14 X G (fun _ _ F=>ok_within F) fun _ _ _ _ _ _=>us3 fun _ _ _=>rfl
  have d_count_spread_within:Def l.prog w K mg base 2 "count_spread_within" ["ways_by_part","width"] spSpread:=def_of i15 X G (fun _ _ F=>ok_spread F T d_running_counts d_ways_within) fun _ _ _ _ _ _=>us2 fun _ _=>rfl
  have d_count_near:Def l.prog w K mg base 6 "count_near" ["frame","d"] spCountNear:=def_of i16 X G (fun _ _ F=>ok_countnear F d_need_frame d_need_miss d_ways_of_parts d_count_spread_within) fun _ _ _ _ _ _=>us2 fun _ _=>rfl
  have d_copy_of:Def l.prog w K mg base 1 "copy_of" ["frame"] spCopyK:=def_of i17 X G (fun _ _ F=>ok_copyof F T) fun _ _ _ _ _ _=>us1 fun _=>rfl
  have d_with_weight:Def l.prog w K mg base 3 "with_weight" ["frame","place","weight"] spWith:=def_of i18 X G (fun _ _ F=>ok_with F T d_is_between d_copy_of) fun _ _ _ _ _ _=>us3 fun _ _ _=>rfl
  have k_Keeper:CDef l.prog w K mg base 6 "Keeper" C ["self","frame"] (spInit C):=cdef_of jm0 mkC kC (PySem.W.mg_of X G aC) (fun _ _ F=>ok_kinit F nS d_need_frame d_copy_of cl) fun _ _ _ _ _ _=>us2 fun _ _=>rfl
  have m_changes:MDef l.prog w K mg base 1 C "changes" ["self"] (spChanges C):=mdef_of jm1 (fun _ _ F=>ok_kchanges F T nS cl) fun _ _ _ _ _ _=>us1 fun _=>rfl
  have m_frame:MDef l.prog w K mg base 2 C "frame" ["self"] (spFrameK C):=mdef_of jm2 (fun _ _ F=>ok_kframe F nS d_copy_of cl) fun _ _ _ _ _ _=>us1 fun _=>rfl
  have m_near:MDef l.prog w K mg base 7 C "near" ["self","d"] (spNearK C):=mdef_of jm3 (fun _ _ F=>ok_knear F nS d_count_near cl) fun _ _ _ _ _ _=>us2 fun _ _=>rfl
  have m_weigh:MDef l.prog w K mg base 8 C "weigh" ["self","place","weight"] (spWeigh C):=mdef_of jm4 (fun _ _ F=>ok_kweigh F nS d_with_weight d_count_even cl) fun _ _ _ _ _ _=>us3 fun _ _ _=>rfl
  have m_undo:MDef l.prog w K mg base 8 C "undo" ["self"] (spUndo C):=mdef_of jm5 (fun _ _ F=>ok_kundo F nS d_count_even cl m_changes) fun _ _ _ _ _ _=>us1 fun _=>rfl
  have e_with_weight:Def1 l.prog w K mg base 3 "with_weight" ["frame","place","weight"] (spOr spWith (spNoWith c2 c1)):=def1_of i18 X G (fun _ _ F=>(ok_with F T d_is_between d_copy_of).up.or (ok_with1 F T d_is_between o2 en.n2 o1 en.n1)) fun _ _ _ _ _ _=>us3 fun _ _ _=>rfl
  have n_undo:MDef1 l.prog w K mg base 8 C "undo" ["self"] (spOr (spUndo C) (spNoUndo C c1)):=mdef1_of jm5 (fun _ _ F=>(ok_kundo F nS d_count_even cl m_changes).up.or (ok_kundo1 F cl m_changes o1 en.n1)) fun _ _ _ _ _ _=>us1 fun _=>rfl
  have n_weigh:MDef1 l.prog w K mg base 8 C "weigh" ["self","place","weight"] (spOr (spWeigh C) (spNoWeigh C c2 c1)):=mdef1_of jm4 (fun _ _ F=>(ok_kweigh F nS d_with_weight d_count_even cl).up.or (ok_kweigh1 F cl nS e_with_weight)) fun _ _ _ _ _ _=>us3 fun _ _ _=>rfl
  have d_law_cell:Def l.prog w K mg base 1 "_law_cell" ["script","k"] (spCell K):=def_of i19 X G (fun _ _ F=>ok_cell F T) fun _ _ _ _ _ _=>us2 fun _ _=>rfl
  have d_law_store:Def l.prog w K mg base 1 "_law_store" ["cell"] spStore:=def_of i20 X G (fun _ _ F=>ok_store F) fun _ _ _ _ _ _=>us1 fun _=>rfl
  have d_law_take:Def l.prog w K mg base 1 "_law_take" ["store","many"] spTake:=def_of i21 X G (fun _ _ F=>ok_take F) fun _ _ _ _ _ _=>us2 fun _ _=>rfl
  have d_law_frame:Def l.prog w K mg base 2 "_law_frame" ["store","longest"] spFrame:=def_of i22 X G (fun _ _ F=>ok_frame F T d_law_take) fun _ _ _ _ _ _=>us2 fun _ _=>rfl
  have d_law_kind:Def l.prog w K mg base 1 "_law_kind" ["e","due"] (spKind K (cs [c0,c1,c2,c3,c4,c5,c6,c7,c8,c9])):=def_of i23 X G (fun _ _ F=>ok_kind F T en) fun _ _ _ _ _ _=>us2 fun _ _=>rfl
  have d_law_is_from:Def l.prog w K mg base 1 "_law_is_from" ["thing","low","high"] spBetw:=def_of i24 X G (fun _ _ F=>ok_isfrom F T) fun _ _ _ _ _ _=>us3 fun _ _ _=>rfl
  have d_law_due:Def l.prog w K mg base 2 "_law_due" ["state","deed"] spDue:=def_of i25 X G (fun _ _ F=>ok_due F T d_law_is_from) fun _ _ _ _ _ _=>us2 fun _ _=>rfl
  have d_law_deed:Def l.prog w K mg base 2 "_law_deed" ["store","state"] spDeed:=def_of i26 X G (fun _ _ F=>ok_deed F T d_law_take) fun _ _ _ _ _ _=>us2 fun _ _=>rfl
  have d_law_asked:Def l.prog w K mg base 9 "_law_asked" ["keeper","deed","due"] (spAsked C):=def_of i27 X G (fun _ _ F=>ok_asked (c:=(cs [c0,c1,c2,c3,c4,c5,c6,c7,c8,c9])) F T nstr (PySem.W.mg_of X G eB) u1 u2 y1 y2 cl d_law_kind n_undo n_weigh) fun _ _ _ _ _ _=>us3 fun _ _ _=>rfl
  have d_law_part:Def l.prog w K mg base 1 "_law_part" ["base","weights"] spWays:=def_of i28 X G (fun _ _ F=>ok_part F T) fun _ _ _ _ _ _=>us2 fun _ _=>rfl
  have d_law_cut:Def l.prog w K mg base 1 "_law_cut" ["frame"] spWeights:=def_of i29 X G (fun _ _ F=>ok_cutl F) fun _ _ _ _ _ _=>us1 fun _=>rfl
  have d_law_even:Def l.prog w K mg base 2 "_law_even" ["frame"] spCountEven:=def_of i30 X G (fun _ _ F=>ok_evenl F T d_law_part d_law_cut) fun _ _ _ _ _ _=>us1 fun _=>rfl
  have d_law_near:Def l.prog w K mg base 2 "_law_near" ["frame","d"] spCountNear:=def_of i31 X G (fun _ _ F=>ok_nearl F T d_law_part d_law_cut) fun _ _ _ _ _ _=>us2 fun _ _=>rfl
  have d_law_copy:Def l.prog w K mg base 1 "_law_copy" ["frame"] spCopyK:=def_of i32 X G (fun _ _ F=>ok_copyl F T) fun _ _ _ _ _ _=>us1 fun _=>rfl
  have d_law_stand:Def l.prog w K mg base 8 "_law_stand" ["keepers","states","d"] (spStand C):=def_of i33 X G (fun _ _ F=>ok_stand F T d_law_near cl m_frame m_changes m_near) fun _ _ _ _ _ _=>us3 fun _ _ _=>rfl
  exact ok_law F T nstr d_law_cell d_law_store d_law_take d_law_frame d_law_copy d_law_deed d_law_due d_law_asked d_law_even d_law_stand cl m_frame k_Keeper
theorem walk {l:PySem.W.OpenLaw} {q:Program} {loose:List Str} {XP:(Str→Option Value)→Heap→Prop} {YP:World→Heap→Prop} {d:DefRec} {K:Params→PySem.W.Frag} (hn:l.most=some 63) (hdf:d.params.defaults=[])
    (hY:∀ (w:World) (h:Heap),YP w h→(K w.params).In h)
    (F:∀ (w:World) (mg:Str→Option Value) (fa:Addr) (h:Heap),(K w.params).In h→h.Ns mainGlobals mg→mg d.name=some (.ref fa)→
      ∃ fd:FuncData,(∀ (s:Shared) (u:Value),BindsTo s fd ⟨[u],[]⟩ [("script",u)])∧∀ base:Heap,(K w.params).In base→base.Ns mainGlobals mg→FnOk l.prog w (K w.params) mg base CX0 10 fa fd ["script"] (spLaw (K w.params))) :
    PySem.W.WalkO q loose XP YP l.row.toRowW d [] (fun f vs=>PySem.call f vs) :=
  L2.walk_of (n:=63) (k:=10) (x:="script") (CX:=fun _=>CX0) (sp:=fun w=>spLaw (K w.params)) hn (by decide) hdf ⟨rfl,by decide,by decide,rfl⟩ hY F (fun _ _ a ns hl _ hS=>⟨a,ns,rfl,hS,hl,fun _=>rfl⟩) fun _ _ _ _ _ z=>z
end Hv
open PySem PySem.W PyProof.Rows
theorem PySem.W.Fast.tw16534255044735142557:True:=trivial
theorem PySem.W.Fast.tw6989599337946757240:True:=trivial
theorem PySem.W.Fast.tw457855965896015290:True:=trivial
theorem PySem.W.Fast.tw17365352074235448581:True:=trivial
theorem PySem.W.Fast.tw16885317122123515720:True:=trivial
theorem PySem.W.Fast.tw7249196235028222992:True:=trivial
theorem PySem.W.Fast.tw7630009242327848685:True:=trivial
theorem PySem.W.Fast.tw471797840904027067:True:=trivial
theorem PySem.W.Fast.tw2290217189950721917:True:=trivial
theorem PySem.W.Fast.tw12113802188171210987:True:=trivial
theorem PySem.W.Fast.tw12803049022769201522:True:=trivial
theorem PySem.W.Fast.tw4499772640508896902:True:=trivial
theorem PySem.W.Fast.tw13118698781414059766:True:=trivial
theorem PySem.W.Fast.tw16480079466679228703:True:=trivial
theorem PySem.W.Fast.tw8059659539042030027:True:=trivial
theorem PySem.W.Fast.tw13797019466190371057:True:=trivial
theorem PySem.W.Fast.tw5650210407795153327:True:=trivial
theorem PySem.W.Fast.tw4530147068008750638:True:=trivial
theorem PySem.W.Fast.tw17276946145746149978:True:=trivial
theorem PySem.W.Fast.tw12147707107181469746:True:=trivial
theorem PySem.W.Fast.tw13916486415327665135:True:=trivial
theorem PySem.W.Fast.tw6733239095673682241:True:=trivial
theorem PySem.W.Fast.tw7210587683775944574:True:=trivial
theorem PySem.W.Fast.tw4107180963062346914:True:=trivial
theorem PySem.W.Fast.tw4610344560884177022:True:=trivial
theorem PySem.W.Fast.tw2576566601267713056:True:=trivial
theorem PySem.W.Fast.tw388975991643449578:True:=trivial
theorem PySem.W.Fast.tw15797566785047847866:True:=trivial
theorem PySem.W.Fast.tw9770991989701226349:True:=trivial
theorem PySem.W.Fast.tw13739301318688056966:True:=trivial
theorem PySem.W.Fast.tw14612326040307686:True:=trivial
theorem PySem.W.Fast.tw7742228526636305762:True:=trivial
theorem PySem.W.Fast.tw2808679996839151790:True:=trivial
theorem PySem.W.Fast.tw15712057942043891630:True:=trivial
theorem PySem.W.Fast.tw6355798194167912770:True:=trivial
theorem PySem.W.Fast.tw6878209691005974858:True:=trivial
theorem PySem.W.Fast.tw15075934221092136960:True:=trivial
theorem PySem.W.Fast.tw6538007638724810673:True:=trivial
theorem PySem.W.Fast.tw7557911425718968022:True:=trivial
theorem PySem.W.Fast.tw15453759182419915455:True:=trivial
theorem PySem.W.Fast.tw15668385257995865082:True:=trivial
theorem PySem.W.Fast.tw7300705375764109780:True:=trivial
theorem PySem.W.Fast.tw5767538442852586170:True:=trivial
theorem PySem.W.Fast.tw1318885644837227084:True:=trivial
theorem PySem.W.Fast.tw15186357952951249708:True:=trivial
theorem PySem.W.Fast.tw18444541209851950954:True:=trivial
theorem PySem.W.Fast.tw7218077848623038061:True:=trivial
theorem PySem.W.Fast.tw16029935319162121840:True:=trivial
theorem PySem.W.Fast.tw10742917411193737903:True:=trivial
theorem PySem.W.Fast.tw6542332294380258442:True:=trivial
theorem PySem.W.Fast.tw4306347816320013393:True:=trivial
theorem PySem.W.Fast.tw15276585796967615293:True:=trivial
theorem PySem.W.Fast.tw17075494865044414812:True:=trivial
theorem PySem.W.Fast.tw17991604438490945354:True:=trivial
theorem PySem.W.Fast.tw4317745878641517039:True:=trivial
theorem PySem.W.Fast.tw11120011059564961879:True:=trivial
theorem PySem.W.Fast.tw13338974388007686229:True:=trivial
theorem PySem.W.Fast.tw5850284485309915933:True:=trivial
theorem PySem.W.Fast.tw17159937587294185173:True:=trivial
theorem PySem.W.Fast.tw10384126288942260597:True:=trivial
theorem PySem.W.Fast.tw10275277643494777867:True:=trivial
theorem PySem.W.Fast.tw17586680596817404917:True:=trivial
theorem PySem.W.Fast.tw1020122195432476230:True:=trivial
theorem PySem.W.Fast.tw6827177436561955056:True:=trivial
theorem PySem.W.Fast.tw3882934931493503978:True:=trivial
theorem PySem.W.Fast.tw2750666677447644118:True:=trivial
theorem PySem.W.Fast.tw10537504130568342226:True:=trivial
theorem PySem.W.Fast.tw5801208823601421779:True:=trivial
theorem PySem.W.Fast.tw18084150143188674900:True:=trivial
theorem PySem.W.Fast.tw15206975874050805603:True:=trivial
theorem PySem.W.Fast.tw2801898142240088905:True:=trivial
theorem PySem.W.Fast.tw13154233920695215550:True:=trivial
theorem PySem.W.Fast.tw16953454750830839972:True:=trivial
theorem PySem.W.Fast.tw14576344103119707100:True:=trivial
theorem PySem.W.Fast.tw17408648164861265794:True:=trivial
theorem PySem.W.Fast.tw2203098584053893063:True:=trivial
theorem PySem.W.Fast.tw9857207587631884859:True:=trivial
theorem PySem.W.Fast.tw16493377283722658905:True:=trivial
theorem PySem.W.Fast.tw11465257232716016733:True:=trivial
theorem PySem.W.Fast.tw17546939362331006284:True:=trivial
theorem PySem.W.Fast.tw7832551764990322653:True:=trivial
theorem PySem.W.Fast.tw18356353971164882080:True:=trivial
theorem PySem.W.Fast.tw12949178215169236043:True:=trivial
theorem PySem.W.Fast.tw907543222782637471:True:=trivial
theorem PySem.W.Fast.tw10323883105442865008:True:=trivial
theorem PySem.W.Fast.tw331984630340483866:True:=trivial
theorem PySem.W.Fast.tw9801929768154308344:True:=trivial
theorem PySem.W.Fast.tw7563104566255864712:True:=trivial
theorem PySem.W.Fast.tw97383490620765756:True:=trivial
theorem PySem.W.Fast.tw5890267221798139189:True:=trivial
theorem PySem.W.Fast.tw6762997747917845377:True:=trivial
theorem PySem.W.Fast.tw14597060105913295081:True:=trivial
theorem PySem.W.Fast.tw2235242243685345:True:=trivial
theorem PySem.W.Fast.tw10480530821449963825:True:=trivial
theorem PySem.W.Fast.tw4351998482716184963:True:=trivial
theorem PySem.W.Fast.tw14247578693378522498:True:=trivial
theorem PySem.W.Fast.tw965488450475892196:True:=trivial
theorem PySem.W.Fast.tw11225070655894648572:True:=trivial
theorem PySem.W.Fast.tw13570328919838425876:True:=trivial
theorem PySem.W.Fast.tw15725297409738839539:True:=trivial
theorem PySem.W.Fast.tw8817205835917676260:True:=trivial
theorem PySem.W.Fast.tw18293431188975345455:True:=trivial
theorem PySem.W.Fast.tw14461627659422166549:True:=trivial
theorem PySem.W.Fast.tw8531284045729519321:True:=trivial
theorem PySem.W.Fast.tw2298675887506223471:True:=trivial
theorem PySem.W.Fast.tw12194956866101016601:True:=trivial
theorem PySem.W.Fast.tw17372108828010236684:True:=trivial
theorem PySem.W.Fast.tw16640418504323225940:True:=trivial
theorem PySem.W.Fast.tw2709267618315801441:True:=trivial
theorem PySem.W.Fast.tw3266700154070269529:True:=trivial
theorem PySem.W.Fast.tw4007478997773165195:True:=trivial
theorem PySem.W.Fast.tw15046628008193361876:True:=trivial
theorem PySem.W.Fast.tw16780325954920638050:True:=trivial
theorem PySem.W.Fast.tw16286580368208236774:True:=trivial
theorem PySem.W.Fast.tw11045519055054863131:True:=trivial
theorem PySem.W.Fast.tw16414324694408257885:True:=trivial
theorem PySem.W.Fast.tw7767765258870481577:True:=trivial
theorem PySem.W.Fast.tw8231079140363123911:True:=trivial
theorem PySem.W.Fast.tw11390025458448012521:True:=trivial
theorem PySem.W.Fast.tw16762699187457657324:True:=trivial
theorem PySem.W.Fast.tw15029706639524895598:True:=trivial
theorem PySem.W.Fast.tw17922477392072193285:True:=trivial
theorem PySem.W.Fast.tw11809953844099212593:True:=trivial
theorem PySem.W.Fast.tw15499572742630371627:True:=trivial
theorem PySem.W.Fast.tw17837439936074807223:True:=trivial
theorem PySem.W.Fast.tw15482093028519408746:True:=trivial
theorem PySem.W.Fast.tw14321646940977045248:True:=trivial
theorem PySem.W.Fast.tw16718184099625483336:True:=trivial
theorem PySem.W.Fast.tw15643432896075812547:True:=trivial
theorem PySem.W.Fast.tw11754709272660826410:True:=trivial
theorem PySem.W.Fast.tw12515479847006316114:True:=trivial
theorem PySem.W.Fast.tw17153827222844024858:True:=trivial
theorem PySem.W.Fast.tw4698572469002100732:True:=trivial
theorem PySem.W.Fast.tw12756888046400698924:True:=trivial
theorem PySem.W.Fast.tw10577711218783974347:True:=trivial
theorem PySem.W.Fast.tw16999731178524116503:True:=trivial
theorem PySem.W.Fast.tw16199092008123333354:True:=trivial
theorem PySem.W.Fast.tw7855934084398398630:True:=trivial
theorem PySem.W.Fast.tw7688222850963701605:True:=trivial
theorem PySem.W.Fast.tw18069007436245536351:True:=trivial
theorem PySem.W.Fast.tw15189556746944587215:True:=trivial
theorem PySem.W.Fast.tw11981170728952292097:True:=trivial
theorem PySem.W.Fast.tw1382768116047357910:True:=trivial
theorem PySem.W.Fast.tw16150911963141199941:True:=trivial
theorem PySem.W.Fast.tw6369648746299878611:True:=trivial
theorem PySem.W.Fast.tw5509341332748764616:True:=trivial
theorem PySem.W.Fast.tw15346243847777379244:True:=trivial
theorem PySem.W.Fast.tw15585555415284541866:True:=trivial
theorem PySem.W.Fast.tw6420055686385938626:True:=trivial
theorem PySem.W.Fast.tw6129928213598673267:True:=trivial
theorem PySem.W.Fast.tw1205273843571003227:True:=trivial
theorem PySem.W.Fast.tw5799959138321383036:True:=trivial
theorem PySem.W.Fast.tw5574752773112214048:True:=trivial
theorem PySem.W.Fast.tw5736061011456694434:True:=trivial
theorem PySem.W.Fast.tw153953331787871401:True:=trivial
theorem PySem.W.Fast.tw8829360969844419624:True:=trivial
theorem PySem.W.Fast.tw9417316863986167547:True:=trivial
theorem PySem.W.Fast.tw11430373621392261049:True:=trivial
theorem PySem.W.Fast.tw17350917128391468053:True:=trivial
theorem PySem.W.Fast.tw17873550981304372393:True:=trivial
theorem PySem.W.Fast.tw8548831670577713473:True:=trivial
theorem PySem.W.Fast.tw12589026118848282613:True:=trivial
theorem PySem.W.Fast.tw14341013063999180272:True:=trivial
theorem PySem.W.Fast.tw7589992528050618590:True:=trivial
theorem PySem.W.Fast.tw12320429918931196857:True:=trivial
theorem PySem.W.Fast.tw7884224708570825446:True:=trivial
theorem PySem.W.Fast.tw8846835371517467605:True:=trivial
theorem PySem.W.Fast.tw4091134361316572340:True:=trivial
theorem PySem.W.Fast.tw3081775457804015400:True:=trivial
theorem PySem.W.Fast.tw5387693334059111386:True:=trivial
theorem PySem.W.Fast.tw10387323515326921327:True:=trivial
theorem PySem.W.Fast.tw15080080558797230848:True:=trivial
theorem PySem.W.Fast.tw12815164287720270892:True:=trivial
theorem PySem.W.Fast.tw6849793448474418093:True:=trivial
theorem PySem.W.Fast.tw1953475144067057469:True:=trivial
theorem PySem.W.Fast.tw3107669146836674768:True:=trivial
theorem PySem.W.Fast.tw18205598728494687476:True:=trivial
theorem PySem.W.Fast.tw2483080867762285647:True:=trivial
theorem PySem.W.Fast.tw12686095226581853570:True:=trivial
theorem PySem.W.Fast.tw1517641392759446439:True:=trivial
theorem PySem.W.Fast.tw11666459432941202406:True:=trivial
theorem PySem.W.Fast.tw3210739731910523051:True:=trivial
theorem PySem.W.Fast.tw13118315911618931775:True:=trivial
theorem PySem.W.Fast.tw1259487000229100791:True:=trivial
theorem PySem.W.Fast.tw2320967537323597438:True:=trivial
theorem PySem.W.Fast.tw310645645587573328:True:=trivial
theorem PySem.W.Fast.tw5117583785001049076:True:=trivial
theorem PySem.W.Fast.tw15260053418783753235:True:=trivial
theorem PySem.W.Fast.tw14403136184146732911:True:=trivial
theorem PySem.W.Fast.tw12958217742315375533:True:=trivial
theorem PySem.W.Fast.tw231170173555680369:True:=trivial
theorem PySem.W.Fast.tw10753110967456061764:True:=trivial
theorem PySem.W.Fast.tw7296476969446498519:True:=trivial
theorem PySem.W.Fast.tw11341635827421588712:True:=trivial
theorem PySem.W.Fast.tw17138209534084989658:True:=trivial
theorem PySem.W.Fast.tw15292010797180269976:True:=trivial
theorem PySem.W.Fast.tw14576863354745033083:True:=trivial
theorem PySem.W.Fast.tw7308105806753529703:True:=trivial
theorem PySem.W.Fast.tw3297165233615012258:True:=trivial
theorem PySem.W.Fast.tw17763025407773692177:True:=trivial
theorem PySem.W.Fast.tw6321307419856660231:True:=trivial
theorem PySem.W.Fast.tw13723951408700996244:True:=trivial
theorem PySem.W.Fast.tw10379495818743087300:True:=trivial
theorem PySem.W.Fast.tw635190402411182470:True:=trivial
theorem PySem.W.Fast.tw5835122591120248050:True:=trivial
theorem PySem.W.Fast.tw16559110953072508324:True:=trivial
theorem PySem.W.Fast.tw4300448766265797024:True:=trivial
theorem PySem.W.Fast.tw3619081868457766858:True:=trivial
theorem PySem.W.Fast.tw3289058231765574139:True:=trivial
theorem PySem.W.Fast.tw3948406215684054358:True:=trivial
theorem PySem.W.Fast.tw16378977195056331024:True:=trivial
theorem PySem.W.Fast.tw15055917542892910767:True:=trivial
theorem PySem.W.Fast.tw364863802072129021:True:=trivial
theorem PySem.W.Fast.tw15250833991318276827:True:=trivial
theorem PySem.W.Fast.tw4984588164617456417:True:=trivial
theorem PySem.W.Fast.tw13075891804373422847:True:=trivial
theorem PySem.W.Fast.tw6542035329962535438:True:=trivial
theorem PySem.W.Fast.tw17748326152792851104:True:=trivial
theorem PySem.W.Fast.tw1430910549557914640:True:=trivial
theorem PySem.W.Fast.tw2162326175260134763:True:=trivial
theorem PySem.W.Fast.tw1028882304967103194:True:=trivial
theorem PySem.W.Fast.tw4184433665210846581:True:=trivial
theorem PySem.W.Fast.tw5693928467041156759:True:=trivial
theorem PySem.W.Fast.tw11916899048617117632:True:=trivial
theorem PySem.W.Fast.tw16967860627665576336:True:=trivial
theorem PySem.W.Fast.tw7243556976696668775:True:=trivial
theorem PySem.W.Fast.tw4655473351832860172:True:=trivial
theorem PySem.W.Fast.tw521114954027820898:True:=trivial
theorem PySem.W.Fast.tw13477910437980824334:True:=trivial
theorem PySem.W.Fast.tw5139150629370655731:True:=trivial
theorem PySem.W.Fast.tw8758880419345163379:True:=trivial
theorem PySem.W.Fast.tw6602625413292016600:True:=trivial
theorem PySem.W.Fast.tw1064988865394504596:True:=trivial
theorem PySem.W.Fast.tw13134599681940962585:True:=trivial
theorem PySem.W.Fast.tw18117832700321587986:True:=trivial
theorem PySem.W.Fast.tw16777672381368656954:True:=trivial
theorem PySem.W.Fast.tw17107519213796745533:True:=trivial
theorem PySem.W.Fast.tw1672372045561716870:True:=trivial
theorem PySem.W.Fast.tw7740073073414540223:True:=trivial
theorem PySem.W.Fast.tw3533631681138930712:True:=trivial
theorem PySem.W.Fast.tw14353940808860168886:True:=trivial
theorem PySem.W.Fast.tw946904054599361025:True:=trivial
theorem PySem.W.Fast.tw5289021742764767988:True:=trivial
theorem PySem.W.Fast.tw2155702901248208192:True:=trivial
theorem PySem.W.Fast.tw14826148295920471280:True:=trivial
theorem PySem.W.Fast.tw12240496841821594353:True:=trivial
theorem PySem.W.Fast.tw5225571379414705912:True:=trivial
theorem PySem.W.Fast.tw12054468656890109564:True:=trivial
theorem PySem.W.Fast.tw18281780203934977066:True:=trivial
theorem PySem.W.Fast.tw7840178976846318004:True:=trivial
theorem PySem.W.Fast.tw17271699353036403511:True:=trivial
theorem PySem.W.Fast.tw10429635159141573271:True:=trivial
theorem PySem.W.Fast.tw16753641184030405110:True:=trivial
theorem PySem.W.Fast.tw9971039648195234887:True:=trivial
theorem PySem.W.Fast.tw18339348263913535498:True:=trivial
theorem PySem.W.Fast.tw3967159796303791110:True:=trivial
theorem PySem.W.Fast.tw18389782879183146437:True:=trivial
theorem PySem.W.Fast.tw14731929004705205237:True:=trivial
theorem PySem.W.Fast.tw15651162398384672614:True:=trivial
theorem PySem.W.Fast.tw5951896578336156801:True:=trivial
theorem PySem.W.Fast.tw16888691278770088768:True:=trivial
theorem PySem.W.Fast.tw13297426327515426997:True:=trivial
theorem PySem.W.Fast.tw11726997818303601140:True:=trivial
theorem PySem.W.Fast.tw6677967570066957033:True:=trivial
theorem PySem.W.Fast.tw17629783765232164297:True:=trivial
theorem PySem.W.Fast.tw789475042650157564:True:=trivial
theorem PySem.W.Fast.tw2607389045211441416:True:=trivial
theorem PySem.W.Fast.tw2658409704438789233:True:=trivial
theorem PySem.W.Fast.tw6501583272882496905:True:=trivial
theorem PySem.W.Fast.tw1973550027893641384:True:=trivial
theorem PySem.W.Fast.tw16788294013526594748:True:=trivial
theorem PySem.W.Fast.tw16650285605115335928:True:=trivial
theorem PySem.W.Fast.tw11747578998643024659:True:=trivial
theorem PySem.W.Fast.tw3060243994834578785:True:=trivial
theorem PySem.W.Fast.tw7380750132738901137:True:=trivial
theorem PySem.W.Fast.tw9958500540153445134:True:=trivial
theorem PySem.W.Fast.tw5299369954716870568:True:=trivial
theorem PySem.W.Fast.tw16770193887332418355:True:=trivial
theorem PySem.W.Fast.tw1635904580947063345:True:=trivial
theorem PySem.W.Fast.tw1609437699249106434:True:=trivial
theorem PySem.W.Fast.tw7201234074344920335:True:=trivial
theorem PySem.W.Fast.tw12751264402825072833:True:=trivial
theorem PySem.W.Fast.tw18406244324453265208:True:=trivial
theorem PySem.W.Fast.tw13234384957532459749:True:=trivial
theorem PySem.W.Fast.tw1762709803270668135:True:=trivial
theorem PySem.W.Fast.tw3976321651612621183:True:=trivial
theorem PySem.W.Fast.tw17154215775851715585:True:=trivial
theorem PySem.W.Fast.tw11562401614990936913:True:=trivial
theorem PySem.W.Fast.tw16642506185742921226:True:=trivial
theorem PySem.W.Fast.tw7906274020502970549:True:=trivial
theorem PySem.W.Fast.tw11341213742298597814:True:=trivial
theorem PySem.W.Fast.tw1734914965620193461:True:=trivial
theorem PySem.W.Fast.tw17436795384661331561:True:=trivial
theorem PySem.W.Fast.tw3118941429091251695:True:=trivial
theorem PySem.W.Fast.tw13382565772826845795:True:=trivial
theorem PySem.W.Fast.tw6048182684872809935:True:=trivial
theorem PySem.W.Fast.tw11384969714446552449:True:=trivial
theorem PySem.W.Fast.tw14578428976403675328:True:=trivial
theorem PySem.W.Fast.tw16665232321132028580:True:=trivial
theorem PySem.W.Fast.tw10690185011756107358:True:=trivial
theorem PySem.W.Fast.tw4547552631591894305:True:=trivial
theorem PySem.W.Fast.tw11940863727719055340:True:=trivial
theorem PySem.W.Fast.tw13664985960380680118:True:=trivial
theorem PySem.W.Fast.tw16893266359285766007:True:=trivial
theorem PySem.W.Fast.tw7418167652285742885:True:=trivial
theorem PySem.W.Fast.tw7232404241252312681:True:=trivial
theorem PySem.W.Fast.tw14323373381813196222:True:=trivial
theorem PySem.W.Fast.tw2367686426250578967:True:=trivial
theorem PySem.W.Fast.tw14348170073132346724:True:=trivial
theorem PySem.W.Fast.tw11995494226936664309:True:=trivial
theorem PySem.W.Fast.tw5409193613261893187:True:=trivial
theorem PySem.W.Fast.tw7846344978334415755:True:=trivial
theorem PySem.W.Fast.tw1031605609598827055:True:=trivial
theorem PySem.W.Fast.tw262423680913508377:True:=trivial
theorem PySem.W.Fast.tw5501458498361536542:True:=trivial
theorem PySem.W.Fast.tw8701060643847471075:True:=trivial
theorem PySem.W.Fast.tw6473462669658605751:True:=trivial
theorem PySem.W.Fast.tw4280783331552719507:True:=trivial
theorem PySem.W.Fast.tw4461079298916392156:True:=trivial
theorem PySem.W.Fast.tw14021035915753962482:True:=trivial
theorem PySem.W.Fast.tw3755398060703283888:True:=trivial
theorem PySem.W.Fast.tw12409993525074279349:True:=trivial
theorem PySem.W.Fast.tw5455828840130330503:True:=trivial
theorem PySem.W.Fast.tw5663906321316353755:True:=trivial
theorem PySem.W.Fast.tw11568244884171316904:True:=trivial
theorem PySem.W.Fast.tw13190994965129448142:True:=trivial
theorem PySem.W.Fast.tw7571813379558645824:True:=trivial
theorem PySem.W.Fast.tw8063473806253313382:True:=trivial
theorem PySem.W.Fast.tw3908876932404831908:True:=trivial
theorem PySem.W.Fast.tw16627612609269832482:True:=trivial
theorem PySem.W.Fast.tw4262989603682264795:True:=trivial
theorem PySem.W.Fast.tw9384112303508966516:True:=trivial
theorem PySem.W.Fast.tw12518738706594232410:True:=trivial
theorem PySem.W.Fast.tw7274052868259172745:True:=trivial
theorem PySem.W.Fast.tw429833856139148036:True:=trivial
theorem PySem.W.Fast.tw12386406489526386617:True:=trivial
theorem PySem.W.Fast.tw12418952099676337770:True:=trivial
theorem PySem.W.Fast.tw15458273883556296542:True:=trivial
theorem PySem.W.Fast.tw6037093435759929543:True:=trivial
theorem PySem.W.Fast.tw12664614926163870975:True:=trivial
theorem PySem.W.Fast.tw13312759695328255984:True:=trivial
theorem PySem.W.Fast.tw15924593790450707788:True:=trivial
theorem PySem.W.Fast.tw3908274810881496171:True:=trivial
theorem PySem.W.Fast.tw18012815990148718042:True:=trivial
theorem PySem.W.Fast.tw17934129335934599585:True:=trivial
theorem PySem.W.Fast.tw8059399297551598657:True:=trivial
theorem PySem.W.Fast.tw8471059973885963766:True:=trivial
theorem PySem.W.Fast.tw10844474150498795370:True:=trivial
theorem PySem.W.Fast.tw14573329127571148221:True:=trivial
theorem PySem.W.Fast.tw7203968704787382331:True:=trivial
theorem PySem.W.Fast.tw17261068909688563679:True:=trivial
theorem PySem.W.Fast.tw2380945814141079800:True:=trivial
theorem PySem.W.Fast.tw3855384333491353252:True:=trivial
theorem PySem.W.Fast.tw5693874905516256920:True:=trivial
theorem PySem.W.Fast.tw197399446796402263:True:=trivial
theorem PySem.W.Fast.tw8453914645283147235:True:=trivial
theorem PySem.W.Fast.tw15590717777319557187:True:=trivial
theorem PySem.W.Fast.tw230910511820183854:True:=trivial
theorem PySem.W.Fast.tw5710301884021278444:True:=trivial
theorem PySem.W.Fast.tw3167869679146628259:True:=trivial
theorem PySem.W.Fast.tw12121778883750467892:True:=trivial
theorem PySem.W.Fast.tw9307876707280441307:True:=trivial
theorem PySem.W.Fast.tw10666240399865155822:True:=trivial
theorem PySem.W.Fast.tw4464529093510974313:True:=trivial
theorem PySem.W.Fast.tw15445752876802483105:True:=trivial
theorem PySem.W.Fast.tw10547181682384008814:True:=trivial
theorem PySem.W.Fast.tw11603057425303947943:True:=trivial
theorem PySem.W.Fast.tw12617650501913713650:True:=trivial
theorem PySem.W.Fast.tw13244949976304197585:True:=trivial
theorem PySem.W.Fast.tw14184664467491769432:True:=trivial
theorem PySem.W.Fast.tw15376508511648585354:True:=trivial
theorem PySem.W.Fast.tw10881242400530514295:True:=trivial
theorem PySem.W.Fast.tw2567672731989967239:True:=trivial
theorem PySem.W.Fast.tw5734508811805268800:True:=trivial
theorem PySem.W.Fast.tw8976518292107020817:True:=trivial
theorem PySem.W.Fast.tw6191886545487361150:True:=trivial
theorem PySem.W.Fast.tw923163653559613743:True:=trivial
theorem PySem.W.Fast.tw6893193868105225865:True:=trivial
theorem PySem.W.Fast.tw10830032656577219560:True:=trivial
theorem PySem.W.Fast.tw4947392874609598383:True:=trivial
theorem PySem.W.Fast.tw16780891126572227947:True:=trivial
theorem PySem.W.Fast.tw16694767465785535844:True:=trivial
theorem PySem.W.Fast.tw1376870653852901451:True:=trivial
theorem PySem.W.Fast.tw4429377395148543575:True:=trivial
theorem PySem.W.Fast.tw14223383417554987777:True:=trivial
theorem PySem.W.Fast.tw17740056612518400447:True:=trivial
theorem PySem.W.Fast.tw13331959106074535630:True:=trivial
theorem PySem.W.Fast.tw9801585807117407889:True:=trivial
theorem PySem.W.Fast.tw14246927229897803664:True:=trivial
theorem PySem.W.Fast.tw16644174527480449375:True:=trivial
theorem PySem.W.Fast.tw15812096894954564243:True:=trivial
theorem PySem.W.Fast.tw7545436921293823555:True:=trivial
theorem PySem.W.Fast.tw8406526101763838404:True:=trivial
theorem PySem.W.Fast.tw13031242013009110815:True:=trivial
theorem PySem.W.Fast.tw4334294518442776128:True:=trivial
theorem PySem.W.Fast.tw11236209664278630558:True:=trivial
theorem PySem.W.Fast.tw17448546667261215257:True:=trivial
theorem PySem.W.Fast.tw5424914178496186588:True:=trivial
theorem PySem.W.Fast.tw17186977187374420918:True:=trivial
theorem PySem.W.Fast.tw10373959796122182868:True:=trivial
theorem PySem.W.Fast.tw11354652571781152820:True:=trivial
theorem PySem.W.Fast.tw1777673316218806862:True:=trivial
theorem PySem.W.Fast.tw15994925600570299921:True:=trivial
theorem PySem.W.Fast.tw6282709055780534902:True:=trivial
theorem PySem.W.Fast.tw16716964926823708139:True:=trivial
theorem PySem.W.Fast.tw11710315369321143842:True:=trivial
theorem PySem.W.Fast.tw15356201563245706967:True:=trivial
theorem PySem.W.Fast.tw17947177983952034018:True:=trivial
theorem PySem.W.Fast.tw1319429404975563345:True:=trivial
theorem PySem.W.Fast.tw8271345647900241623:True:=trivial
theorem PySem.W.Fast.tw2538557866882048501:True:=trivial
theorem PySem.W.Fast.tw632424779944138730:True:=trivial
theorem PySem.W.Fast.tw10666414117583424540:True:=trivial
theorem PySem.W.Fast.tw7627719901761693952:True:=trivial
theorem PySem.W.Fast.tw9622632842011803712:True:=trivial
theorem PySem.W.Fast.tw5005007879012565293:True:=trivial
theorem PySem.W.Fast.tw6153459921577098697:True:=trivial
theorem PySem.W.Fast.tw5872450468220404575:True:=trivial
theorem PySem.W.Fast.tw11430708135103148042:True:=trivial
theorem PySem.W.Fast.tw2995184009292428226:True:=trivial
theorem PySem.W.Fast.tw9679626101203179000:True:=trivial
theorem PySem.W.Fast.tw2578562729404575275:True:=trivial
theorem PySem.W.Fast.tw6747786738146368750:True:=trivial
theorem PySem.W.Fast.tw1206011624274611834:True:=trivial
theorem PySem.W.Fast.tw14131241423914906781:True:=trivial
theorem PySem.W.Fast.tw772806002815659400:True:=trivial
theorem PySem.W.Fast.tw8657999172258257614:True:=trivial
theorem PySem.W.Fast.tw7076244227487870000:True:=trivial
theorem PySem.W.Fast.tw15184421561976212987:True:=trivial
theorem PySem.W.Fast.tw293854149851351131:True:=trivial
theorem PySem.W.Fast.tw1345055219071960132:True:=trivial
theorem PySem.W.Fast.tw12678565331953655533:True:=trivial
theorem PySem.W.Fast.tw10461678085723295213:True:=trivial
theorem PySem.W.Fast.tw12330863402418011999:True:=trivial
theorem PySem.W.Fast.tw1211393712202252655:True:=trivial
theorem PySem.W.Fast.tw2809123559155257574:True:=trivial
theorem PySem.W.Fast.tw18157050510860190429:True:=trivial
theorem PySem.W.Fast.tw9251180741397457335:True:=trivial
theorem PySem.W.Fast.tw10847231717235618169:True:=trivial
theorem PySem.W.Fast.tw14811910267562428146:True:=trivial
theorem PySem.W.Fast.tw4798322756953991618:True:=trivial
theorem PySem.W.Fast.tw17760620597837900422:True:=trivial
theorem PySem.W.Fast.tw8561075842271378420:True:=trivial
theorem PySem.W.Fast.tw10828252886271961273:True:=trivial
theorem PySem.W.Fast.tw10625857707559480127:True:=trivial
theorem PySem.W.Fast.tw12407199296615290862:True:=trivial
theorem PySem.W.Fast.tw3629825300069473407:True:=trivial
theorem PySem.W.Fast.tw3495263155923283220:True:=trivial
theorem PySem.W.Fast.tw835609253209865880:True:=trivial
theorem PySem.W.Fast.tw4756354769389705944:True:=trivial
theorem PySem.W.Fast.tw13627948931301987925:True:=trivial
theorem PySem.W.Fast.tw14914946216269799112:True:=trivial
theorem PySem.W.Fast.tw4310365863219390673:True:=trivial
theorem PySem.W.Fast.tw7178348123767079926:True:=trivial
theorem PySem.W.Fast.tw1802032373472498087:True:=trivial
theorem PySem.W.Fast.tw567838303863108195:True:=trivial
theorem PySem.W.Fast.tw9037123709904250891:True:=trivial
theorem PySem.W.Fast.tw14904348595712996116:True:=trivial
theorem PySem.W.Fast.tw10510029663573803894:True:=trivial
theorem PySem.W.Fast.tw5188257972321607029:True:=trivial
theorem PySem.W.Fast.tw15943407407632224053:True:=trivial
theorem PySem.W.Fast.tw12142756083856043226:True:=trivial
theorem PySem.W.Fast.tw9593131589063775300:True:=trivial
theorem PySem.W.Fast.tw13288530560698512711:True:=trivial
theorem PySem.W.Fast.tw1597204610184454757:True:=trivial
theorem PySem.W.Fast.tw6750527265493547013:True:=trivial
theorem PySem.W.Fast.tw12206339961292783220:True:=trivial
theorem PySem.W.Fast.tw18392859132973350140:True:=trivial
theorem PySem.W.Fast.tw11118522454556668346:True:=trivial
theorem PySem.W.Fast.tw11916139187608805677:True:=trivial
theorem PySem.W.Fast.tw15585527994864274241:True:=trivial
theorem PySem.W.Fast.tw14679611874160437886:True:=trivial
theorem PySem.W.Fast.tw16132211676833141542:True:=trivial
theorem PySem.W.Fast.tw16309591026822478239:True:=trivial
theorem PySem.W.Fast.tw7718366199288342335:True:=trivial
theorem PySem.W.Fast.tw3198313721573228270:True:=trivial
theorem PySem.W.Fast.tw4475456443260196199:True:=trivial
theorem PySem.W.Fast.tw17353431760652526268:True:=trivial
theorem PySem.W.Fast.tw13325311252652086561:True:=trivial
theorem PySem.W.Fast.tw15118821576531724457:True:=trivial
theorem PySem.W.Fast.tw4256141592616447362:True:=trivial
theorem PySem.W.Fast.tw885136711575621455:True:=trivial
theorem PySem.W.Fast.tw2788744766761014561:True:=trivial
theorem PySem.W.Fast.tw16857273190264045120:True:=trivial
theorem PySem.W.Fast.tw5446077050617893936:True:=trivial
theorem PySem.W.Fast.tw6403046432240291424:True:=trivial
theorem PySem.W.Fast.tw4955675849576292050:True:=trivial
theorem PySem.W.Fast.tw3403944019562175892:True:=trivial
theorem PySem.W.Fast.tw6064501723219095631:True:=trivial
theorem PySem.W.Fast.tw14580926835919170309:True:=trivial
theorem PySem.W.Fast.tw5011148331996514070:True:=trivial
theorem PySem.W.Fast.tw2300271697264544376:True:=trivial
theorem PySem.W.Fast.tw11994062755697379832:True:=trivial
theorem PySem.W.Fast.tw10512737438421812981:True:=trivial
theorem PySem.W.Fast.tw1962361092938049559:True:=trivial
theorem PySem.W.Fast.tw9928468745452279216:True:=trivial
theorem PySem.W.Fast.tw12172030013404929797:True:=trivial
theorem PySem.W.Fast.tw299457975452932690:True:=trivial
theorem PySem.W.Fast.tw1991799674632492156:True:=trivial
theorem PySem.W.Fast.tw8875385994423251064:True:=trivial
theorem PySem.W.Fast.tw8579787913360214361:True:=trivial
theorem PySem.W.Fast.tw198054860216999497:True:=trivial
theorem PySem.W.Fast.tw17160245713426843769:True:=trivial
theorem PySem.W.Fast.tw17918235672162022636:True:=trivial
theorem PySem.W.Fast.tw10471614110135907369:True:=trivial
theorem PySem.W.Fast.tw689083488380985865:True:=trivial
theorem PySem.W.Fast.tw4440857442724672928:True:=trivial
theorem PySem.W.Fast.tw3009513184703359497:True:=trivial
theorem PySem.W.Fast.tw14760478266980665825:True:=trivial
theorem PySem.W.Fast.tw15195699910896724771:True:=trivial
theorem PySem.W.Fast.tw1556160858138587900:True:=trivial
theorem PySem.W.Fast.tw6620674762313979741:True:=trivial
theorem PySem.W.Fast.tw5721247737647990414:True:=trivial
theorem PySem.W.Fast.tw1293496406767792178:True:=trivial
theorem PySem.W.Fast.tw8056311802548136294:True:=trivial
theorem PySem.W.Fast.tw5825028025960792565:True:=trivial
theorem PySem.W.Fast.tw8434600232263888172:True:=trivial
theorem PySem.W.Fast.tw16664128872673549197:True:=trivial
theorem PySem.W.Fast.tw3701147283848803248:True:=trivial
theorem PySem.W.Fast.tw17196805783794751168:True:=trivial
theorem PySem.W.Fast.tw16970453079834680948:True:=trivial
theorem PySem.W.Fast.tw17232228838509992267:True:=trivial
theorem PySem.W.Fast.tw6590214901220554731:True:=trivial
theorem PySem.W.Fast.tw2939577528227210470:True:=trivial
theorem PySem.W.Fast.tw16759111453747058280:True:=trivial
theorem PySem.W.Fast.tw10448600857613107054:True:=trivial
theorem PySem.W.Fast.tw1167723127435409524:True:=trivial
theorem PySem.W.Fast.tw3718545408912498083:True:=trivial
theorem PySem.W.Fast.tw2804056872867633142:True:=trivial
theorem PySem.W.Fast.tw11312014890542498729:True:=trivial
theorem PySem.W.Fast.tw1639546413124047193:True:=trivial
theorem PySem.W.Fast.tw854876873612700126:True:=trivial
theorem PySem.W.Fast.tw14509219813901456905:True:=trivial
theorem PySem.W.Fast.tw3485155649806203625:True:=trivial
theorem PySem.W.Fast.tw16712389684731440566:True:=trivial
theorem PySem.W.Fast.tw14460717497204899876:True:=trivial
theorem PySem.W.Fast.tw14503662473501645705:True:=trivial
set_option maxRecDepth 100000 in
set_option maxHeartbeats 0 in
theorem PySem.Challenge.cw_likehalves_k35_keepers_apart_holds : PySem.Challenge.rw_likehalves_k35_keepers_apart.Holds := by
  w_on;o_law;k_head;(case hw=>w_witness2)
  k_fill
  refine Hv.walk (l := PySem.Challenge.rw_likehalves_k35_keepers_apart) rfl rfl (fun w h Y => PySem.W.kIn_of Y) ?F
  case F =>
    intro w mg fa h KX G hmg
    refine' Hv.all_mk KX G hmg ?t ?i0 ?i1 ?i2 ?i3 ?i4 ?i5 ?i6 ?i7 ?i8 ?i9 ?i10 ?i11 ?i12 ?i13 ?i14 ?i15 ?i16 ?i17 ?i18 ?i19 ?i20 ?i21 ?i22 ?i23 ?i24 ?i25 ?i26 ?i27 ?i28 ?i29 ?i30 ?i31 ?i32 ?i33 ?aC ?pgC ?hdC ?poC ?saC ?mkC ?kC ?nS ?jm0 ?jm1 ?jm2 ?jm3 ?jm4 ?jm5 ?eB ?e0 ?e1 ?e2 ?e3 ?e4 ?e5 ?e6 ?e7 ?e8 ?e9 ?tB ?mB ?q1 ?m1 ?l1 ?v1 ?k1_0 ?k1_1 ?k1_2 ?k1_3 ?k1_4 ?k1_5 ?k1_6 ?k1_7 ?k1_8 ?k1_9 ?q2 ?m2 ?l2 ?v2 ?k2_0 ?k2_1 ?k2_2 ?k2_3 ?k2_4 ?k2_5 ?k2_6 ?k2_7 ?k2_8 ?k2_9 ?ndict ?nsorted ?nstr ?nValueError ?jl
    case aC=>k_is
    case pgC=>k_is
    case hdC=>k_is
    case poC=>k_is
    case saC=>k_is
    case mkC=>k_is
    case kC=>k_is
    case nS=>k_is
    case jm0 =>
      refine' Hv.mth_in ?a ?i ?l ?c ?k
      (case a=>k_is);(case i=>k_is);(case l=>k_is);(case c=>k_is);(case k=>k_is)
    case jm1 =>
      refine' Hv.mth_in ?a ?i ?l ?c ?k
      (case a=>k_is);(case i=>k_is);(case l=>k_is);(case c=>k_is);(case k=>k_is)
    case jm2 =>
      refine' Hv.mth_in ?a ?i ?l ?c ?k
      (case a=>k_is);(case i=>k_is);(case l=>k_is);(case c=>k_is);(case k=>k_is)
    case jm3 =>
      refine' Hv.mth_in ?a ?i ?l ?c ?k
      (case a=>k_is);(case i=>k_is);(case l=>k_is);(case c=>k_is);(case k=>k_is)
    case jm4 =>
      refine' Hv.mth_in ?a ?i ?l ?c ?k
      (case a=>k_is);(case i=>k_is);(case l=>k_is);(case c=>k_is);(case k=>k_is)
    case jm5 =>
      refine' Hv.mth_in ?a ?i ?l ?c ?k
      (case a=>k_is);(case i=>k_is);(case l=>k_is);(case c=>k_is);(case k=>k_is)
    case eB=>k_is
    case e0=>k_is
    case e1=>k_is
    case e2=>k_is
    case e3=>k_is
    case e4=>k_is
    case e5=>k_is
    case e6=>k_is
    case e7=>k_is
    case e8=>k_is
    case e9=>k_is
    case tB=>k_is
    case mB=>k_is
    case q1=>kernel_rfl
    case m1=>k_is
    case l1=>exact ⟨by k_is,by k_is,by kernel_rfl,by k_is,by k_is⟩
    case v1=>kernel_rfl
    case k1_0=>kernel_rfl
    case k1_1=>kernel_rfl
    case k1_2=>kernel_rfl
    case k1_3=>kernel_rfl
    case k1_4=>kernel_rfl
    case k1_5=>kernel_rfl
    case k1_6=>kernel_rfl
    case k1_7=>kernel_rfl
    case k1_8=>kernel_rfl
    case k1_9=>kernel_rfl
    case q2=>kernel_rfl
    case m2=>k_is
    case l2=>exact ⟨by k_is,by k_is,by kernel_rfl,by k_is,by k_is⟩
    case v2=>kernel_rfl
    case k2_0=>kernel_rfl
    case k2_1=>kernel_rfl
    case k2_2=>kernel_rfl
    case k2_3=>kernel_rfl
    case k2_4=>kernel_rfl
    case k2_5=>kernel_rfl
    case k2_6=>kernel_rfl
    case k2_7=>kernel_rfl
    case k2_8=>kernel_rfl
    case k2_9=>kernel_rfl
    case ndict=>k_is
    case nsorted=>k_is
    case nstr=>k_is
    case nValueError=>k_is
    case t=>refine ⟨?_,?_,?_,?_,?_,?_,?_,?_,?_,?_,?_,?_,?_,?_⟩ <;> k_is
    all_goals
      refine' Hv.fn_in ?a ?l ?c ?k
      (case a=>k_is);(case l=>k_is);(case c=>k_is);(case k=>k_is)
#print axioms PySem.Challenge.cw_likehalves_k35_keepers_apart_holds
