import PyProof.Rows.All
import Wide.All
import OpenK.AllK
import Wide.FinOn
import Lean
import PyProof.EqAt
import PyProof.EqKinds
import PyProof.TupleCall
import KE.KIsAll
import KE.KItem
import KE.KxBytes
import KE.KRevIter
import KE.KDictOf
import KE.KTurnsDict
import KE.KPairComp
import PyProof.Rows.SortShell
import KE.KDictList
import PyProof.AttrMissSeq
import PyProof.DictUpdate
import PyProof.WalksS
import PyProof.ListRange
import KE.KEqDict
import PyProof.SumWalkG
import PyProof.LongRange
import PySem.Challenge.RW_likehalves_k37_whole_there_and_back
set_option compiler.extract_closed false
set_option genSizeOf false
set_option Elab.async false
set_option linter.all false
set_option maxRecDepth 100000
namespace L2
open PySem PySem.Spec PyProof.Rows
noncomputable abbrev Key:=Sum Int Str
noncomputable def keyIs:Key→Value→Bool
  | .inl k,v=>Value.isInt k v
  | .inr x,v=>Value.isStrOf x v
noncomputable def keyH (w:World):Key→Int
  | .inl k=>hashInt k
  | .inr x=>hashStr w x
theorem keyIs_shape:∀ {k:Key} {v:Value},keyIs k v=true→(∃ i t,k=Sum.inl i∧v=Value.int i t)∨(∃ x t,k=Sum.inr x∧v=Value.str x t)
  | .inl i,v,h=>by
    obtain ⟨t,e⟩:=Value.isInt_shape (k:=i) (v:=v) h
    exact .inl ⟨i,t,rfl,e⟩
  | .inr x,v,h=>by
    obtain ⟨t,e⟩:=Value.isStrOf_shape (x:=x) (v:=v) h
    exact .inr ⟨x,t,rfl,e⟩
theorem keyIs_int (i:Int) (t:Tok):keyIs (.inl i) (.int i t)=true:=by simp [keyIs,Value.isInt]
theorem keyIs_str (x:Str) (t:Tok):keyIs (.inr x) (.str x t)=true:=by simp [keyIs,Value.isStrOf]
theorem key_ll (a b:Int):decide ((Sum.inl a:Key)=Sum.inl b)=(a==b):=by
  by_cases e:a=b
  · subst e;simp
  · have h:¬ (Sum.inl a:Key)=Sum.inl b:=fun q=>e (Sum.inl.inj q)
    rw [decide_eq_false h]
    exact (beq_eq_false_iff_ne.mpr e).symm
theorem key_rr (a b:Str):decide ((Sum.inr a:Key)=Sum.inr b)=decide (a=b):=by
  by_cases e:a=b
  · subst e;simp
  · have h:¬ (Sum.inr a:Key)=Sum.inr b:=fun q=>e (Sum.inr.inj q)
    rw [decide_eq_false h,decide_eq_false e]
theorem key_lr (a:Int) (b:Str):decide ((Sum.inl a:Key)=Sum.inr b)=false:=decide_eq_false (fun q=>nomatch q)
theorem key_rl (a:Str) (b:Int):decide ((Sum.inr a:Key)=Sum.inl b)=false:=decide_eq_false (fun q=>nomatch q)
noncomputable def mixKind (prog:Program) (w:World):PySem.KeyKind prog w Key where
  is:=keyIs
  hash:=keyH w
  inj:=fun v a b ha hb=>by
    rcases keyIs_shape ha with ⟨i,t,rfl,rfl⟩ | ⟨x,t,rfl,rfl⟩
    · rcases keyIs_shape hb with ⟨j,u,rfl,e⟩ | ⟨y,u,rfl,e⟩
      · injection e with e1 _;rw [e1]
      · exact nomatch e
    · rcases keyIs_shape hb with ⟨j,u,rfl,e⟩ | ⟨y,u,rfl,e⟩
      · exact nomatch e
      · injection e with e1 _;rw [e1]
  byValue:=fun k v h=>by
    rcases keyIs_shape h with ⟨i,t,rfl,rfl⟩ | ⟨x,t,rfl,rfl⟩ <;> rfl
  pyHash:=fun hv h=>by
    rcases keyIs_shape hv with ⟨i,t,rfl,rfl⟩ | ⟨x,t,rfl,rfl⟩
    · exact wpAny_pyHash_int h
    · exact wpAny_pyHash_str h
  eqBool:=fun hu hv h=>by
    rcases keyIs_shape hu with ⟨i,t,rfl,rfl⟩ | ⟨x,t,rfl,rfl⟩
    · rcases keyIs_shape hv with ⟨j,u,rfl,rfl⟩ | ⟨y,u,rfl,rfl⟩
      · rw [key_ll] at h;exact wpAny_eqBool_int h
      · rw [key_lr] at h;exact SeqAt.EqAt.int_str i t y u _ _ _ _ h
    · rcases keyIs_shape hv with ⟨j,u,rfl,rfl⟩ | ⟨y,u,rfl,rfl⟩
      · rw [key_rl] at h;exact SeqAt.EqAt.str_int x t j u _ _ _ _ h
      · rw [key_rr] at h;exact wpAny_eqBool_str h
  «strs»:=fun k x t v h=>by
    rcases keyIs_shape h with ⟨i,u,rfl,e⟩ | ⟨y,u,rfl,e⟩
    · exact nomatch e
    · injection e with e1 _
      subst e1
      cases v <;> rfl
theorem mixKind_int (prog:Program) (w:World) (i:Int) (t:Tok):(mixKind prog w).is (.inl i) (.int i t)=true:=keyIs_int i t
theorem mixKind_str (prog:Program) (w:World) (x:Str) (t:Tok):(mixKind prog w).is (.inr x) (.str x t)=true:=keyIs_str x t
end L2
namespace L2
open PySem PySem.Spec PyProof.Rows
inductive V where
  | non | bl (b:Bool) | int (i:Int) | str (x:Str) | byt (b:Array UInt8) | flt (b:UInt64) | ref (a:Addr) | ty (n:String)
  deriving DecidableEq
noncomputable def RelV:V→Value→Prop
  | .non,u=>u=Value.none
  | .bl b,u=>u=Value.bool b
  | .int i,u=>∃ t,u=Value.int i t
  | .str x,u=>∃ t,u=Value.str x t
  | .byt b,u=>∃ t,u=Value.bytes b t
  | .flt b,u=>∃ t,u=Value.float b t
  | .ref a,u=>u=Value.ref a
  | .ty n,u=>u=Value.type n
noncomputable abbrev Vals:List V→List Value→Prop:=Paired RelV
theorem Vals.length {xs:List V} {us:List Value} (r:Vals xs us):xs.length=us.length:=Paired.length r
theorem Vals.get:∀ {xs:List V} {us:List Value} {i:Nat} {x:V},Vals xs us→xs[i]?=some x→∃ u,us[i]?=some u∧RelV x u
  | _,_,_,_,.nil,e=>by simp at e
  | _,_,0,_,.cons r _,e=>by simp at e;subst e;exact ⟨_,rfl,r⟩
  | _,_,i+1,x,.cons _ t,e=>by
    obtain ⟨u,h1,h2⟩:=Vals.get (i:=i) (x:=x) t (by simpa using e)
    exact ⟨u,by simpa using h1,h2⟩
theorem Vals.set {x:V} {u:Value} (r:RelV x u):∀ {xs:List V} {us:List Value} (i:Nat),Vals xs us→Vals (xs.set i x) (us.set i u)
  | _,_,_,.nil=>.nil
  | _,_,0,.cons _ t=>.cons r t
  | _,_,i+1,.cons q t=>.cons q (Vals.set r i t)
theorem Vals.append {xs ys:List V} {us ws:List Value} (a:Vals xs us) (b:Vals ys ws):Vals (xs++ys) (us++ws):=by
  induction a with
  | nil=>exact b
  | cons r _ ih=>exact .cons r ih
theorem Vals.take:∀ {xs:List V} {us:List Value} (n:Nat),Vals xs us→Vals (xs.take n) (us.take n)
  | _,_,0,_=>.nil
  | _,_,_+1,.nil=>.nil
  | _,_,n+1,.cons r t=>.cons r (Vals.take n t)
theorem Vals.drop:∀ {xs:List V} {us:List Value} (n:Nat),Vals xs us→Vals (xs.drop n) (us.drop n)
  | _,_,0,r=>r
  | _,_,_+1,.nil=>.nil
  | _,_,n+1,.cons _ t=>Vals.drop n t
theorem Vals.none_of:∀ {xs:List V} {us:List Value} {i:Nat},Vals xs us→xs[i]?=none→us[i]?=none:=fun {xs us i} r e=>by
  have h1:=r.length
  have h2:xs.length≤i:=List.getElem?_eq_none_iff.mp e
  exact List.getElem?_eq_none_iff.mpr (by omega)
noncomputable def RelO:Option V→Option Value→Prop
  | some v,some u=>RelV v u
  | none,none=>True
  | _,_=>False
noncomputable def KV {κ:Type}:List (κ×V)→List (κ×Value)→Prop:=Paired fun (p:κ×V) (q:κ×Value)=>p.1=q.1∧RelV p.2 q.2
noncomputable def kV:Key→V
  | .inl i=>.int i
  | .inr x=>.str x
inductive HO where
  /-- a list -/
  | lst (xs:List V)
  /-- a tuple (never changes) -/
  | tup (xs:List V)
  /-- a dict whose keys are ints and texts; one whose keys are tuples of ints and texts (the empty one is both) -/
  | dK (kvs:List (Key×V)) | dT (kvs:List (List Key×V))
  /-- a set of ints: its members, its size -/
  | set (S:Int→Bool) (n:Nat)
  /-- an instance of the class at C, its dict at dx, its attributes -/
  | ins (C dx:Addr) (fs:List (Str×V))
  /-- the dict of the instance at x -/
  | own (x:Addr)
  /-- the dict of an exception -/
  | xd (fs:List (Str×V))
  /-- a bound method, f of x -/
  | met (f x:Addr)
  /-- a range object lo, lo + 1, .. below hi -/
  | rng (lo hi:Int)
  /-- a thing that is known to the object (the script; a dict while a loop walks it): read, never written while it is so -/
  | frz (o:Obj) (u:HO)
  /-- a code object's table -/
  | tbl (ps:Array Value)
  /-- any other thing, by what is true of its one object (a def of one's own: SetO a S n := HO.ext fun h => ..) -/
  | ext (φ:Heap→Prop)
noncomputable abbrev Hp:=Addr→Option HO
noncomputable def upd (H:Hp) (a:Addr) (o:HO):Hp:=fun b=>if b=a then some o else H b
theorem upd_same {H:Hp} {a:Addr} {o:HO}:upd H a o a=some o:=by unfold upd;rw [if_pos rfl]
theorem upd_ne {H:Hp} {a b:Addr} {o:HO} (h:b≠a):upd H a o b=H b:=by unfold upd;rw [if_neg h]
theorem ne_of {H:Hp} {a b:Addr} {o u:HO} (h:H a=some o) (h':H b=some u) (d:o≠u):a≠b:=by
  intro e;subst e;rw [h] at h';exact d (Option.some.inj h')
theorem ne_of_none {H:Hp} {a b:Addr} {o:HO} (h:H a=some o) (h':H b=none):a≠b:=by
  intro e;subst e;rw [h] at h';cases h'
section
variable (P:Program) (w:World)
noncomputable def ObjOk (H:Hp) (h:Heap) (a:Addr):HO→Prop
  | .lst xs=>xs.length≤sizeLine∧∃ (its:List Value) (n:Nat),Vals xs its∧h.get? a=some {cls:=.type "list",data:=.seq its.toArray n}
  | .tup xs=>xs.length≤sizeLine∧∃ its:List Value,Vals xs its∧IsTup h a its.toArray
  | .dK kvs=>kvs.length≤sizeLine∧(a==sysModules)=false∧∃ vs,KV kvs vs∧h.DictOf (mixKind P w) a vs
  | .dT kvs=>kvs.length≤sizeLine∧(a==sysModules)=false∧∃ xs:List (List Key×Addr×Value),
      Paired (fun (p:List Key×V) (q:List Key×Addr×Value)=>p.1=q.1∧H q.2.1=some (.tup (p.1.map kV))∧RelV p.2 q.2.2) kvs xs∧
      ∃ o es ep,h.get? a=some o∧o.ExactDict∧o.data=.dict es ep∧es.toList=xs.map (entryOfKey (tupleKind (mixKind P w)))∧(xs.map (·.1)).Nodup
  | .set S n=>h.SetOf (intKind P w) a S n
  | .ins C dx fs=>H dx=some (.own a)∧fs.length≤1000∧dx≠a∧h.get? a=some (PySem.W.instObj C dx)∧
      ∃ mA,h.Ns1 dx mA∧(∀ f,RelO (fs.lookup f) (mA f))∧PySem.Within mA (fs.map (·.1))
  | .own _=>∃ o,h.get? a=some o
  | .xd fs=>∃ mA,h.Ns1 a mA∧∀ f,RelO (fs.lookup f) (mA f)
  | .rng lo hi=>∃ t u v,h.get? a=some {cls:=.type "range",data:=.fields #[.int lo t,.int hi u,.int 1 v]}
  | .frz o u=>h.get? a=some o∧ObjOk H h a u
  | .tbl ps=>h.get? a=some {cls:=.none,data:=.fields ps}
  | .met f x=>h.get? a=some (PySem.W.methodObj (.ref f) (.ref x))
  | .ext φ=>φ h∧(∃ o,h.get? a=some o)∧∀ h1 h2:Heap,φ h1→(∀ o,h1.get? a=some o→h2.get? a=some o)→φ h2
noncomputable def HOk (H:Hp) (h:Heap):Prop:=∀ a o,H a=some o→ObjOk P w H h a o
end
section
variable {P:Program} {w:World} {H H':Hp} {h h':Heap} {a:Addr} {o:HO}
theorem ObjOk.lt (x:ObjOk P w H h a o):a<h.objs.size:=by
  cases o with
  | lst xs=>obtain ⟨_,_,_,_,e⟩:=x;exact Heap.lt_size e
  | tup xs=>obtain ⟨_,_,_,p⟩:=x;exact p.lt
  | dK kvs=>obtain ⟨_,_,_,_,o,_,_,e,_⟩:=x;exact Heap.lt_size e
  | dT kvs=>obtain ⟨_,_,_,_,o,_,_,e,_⟩:=x;exact Heap.lt_size e
  | set S n=>obtain ⟨o,_,_,_,e,_⟩:=x;exact Heap.lt_size e
  | ins C dx fs=>obtain ⟨_,_,_,e,_⟩:=x;exact Heap.lt_size e
  | own y=>obtain ⟨_,e⟩:=x;exact Heap.lt_size e
  | xd fs=>obtain ⟨_,⟨_,_,_,e,_⟩,_⟩:=x;exact Heap.lt_size e
  | rng lo hi=>obtain ⟨_,_,_,e⟩:=x;exact Heap.lt_size e
  | frz ob u=>obtain ⟨e,_⟩:=x;exact Heap.lt_size e
  | tbl ps=>exact Heap.lt_size (show h.get? a=some _ from x)
  | met f y=>exact Heap.lt_size (show h.get? a=some _ from x)
  | ext φ=>obtain ⟨_,⟨_,e⟩,_⟩:=x;exact Heap.lt_size e
theorem Paired.mapP {α β:Type} {F G:α→β→Prop} {l₁:List α} {l₂:List β} (h:Paired F l₁ l₂) (f:∀ a b,F a b→G a b):Paired G l₁ l₂:=by
  induction h with
  | nil=>exact .nil
  | cons r _ ih=>exact .cons (f _ _ r) ih
theorem ObjOk.stay (x:ObjOk P w H h a o) (k:∀ b u,(b=a∨H b=some (.own a))→h.get? b=some u→h'.get? b=some u)
    (ho:∀ b,H b=some (.own a)→H' b=some (.own a)) (ht:∀ b xs,H b=some (.tup xs)→H' b=some (.tup xs)):ObjOk P w H' h' a o:=by
  induction o with
  | lst xs=>obtain ⟨z,its,n,r,e⟩:=x;exact ⟨z,its,n,r,k _ _ (.inl rfl) e⟩
  | tup xs=>obtain ⟨z,its,r,ob,e,c⟩:=x;exact ⟨z,its,r,ob,k _ _ (.inl rfl) e,c⟩
  | dK kvs=>obtain ⟨z,y,vs,r,ob,es,ep,e,c⟩:=x;exact ⟨z,y,vs,r,ob,es,ep,k _ _ (.inl rfl) e,c⟩
  | dT kvs =>
    obtain ⟨z,y,xs,r,ob,es,ep,e,c⟩:=x
    exact ⟨z,y,xs,Paired.mapP r fun p q z=>⟨z.1,ht _ _ z.2.1,z.2.2⟩,ob,es,ep,k _ _ (.inl rfl) e,c⟩
  | set S n=>obtain ⟨ob,es,ep,t,e,c⟩:=x;exact ⟨ob,es,ep,t,k _ _ (.inl rfl) e,c⟩
  | ins C dx fs =>
    obtain ⟨d,z,ne,e,mA,⟨od,es,ep,e2,c⟩,r⟩:=x
    exact ⟨ho _ d,z,ne,k _ _ (.inl rfl) e,mA,⟨od,es,ep,k _ _ (.inr d) e2,c⟩,r⟩
  | own y=>obtain ⟨ob,e⟩:=x;exact ⟨ob,k _ _ (.inl rfl) e⟩
  | xd fs=>obtain ⟨mA,⟨od,es,ep,e,c⟩,r⟩:=x;exact ⟨mA,⟨od,es,ep,k _ _ (.inl rfl) e,c⟩,r⟩
  | rng lo hi=>obtain ⟨t,u,v,e⟩:=x;exact ⟨t,u,v,k _ _ (.inl rfl) e⟩
  | frz ob u ih=>obtain ⟨e,q⟩:=x;exact ⟨k _ _ (.inl rfl) e,ih q⟩
  | tbl ps =>
    have e:h.get? a=some {cls:=.none,data:=.fields ps}:=x
    show h'.get? a=some {cls:=.none,data:=.fields ps}
    exact k a _ (.inl rfl) e
  | met f y =>
    have e:h.get? a=some (PySem.W.methodObj (.ref f) (.ref y)):=x
    show h'.get? a=some (PySem.W.methodObj (.ref f) (.ref y))
    exact k a _ (.inl rfl) e
  | ext φ=>obtain ⟨p,⟨o,e⟩,st⟩:=x;exact ⟨st _ _ p fun o q=>k _ _ (.inl rfl) q,⟨o,k _ _ (.inl rfl) e⟩,st⟩
theorem HOk.lt (x:HOk P w H h) (e:H a=some o):a<h.objs.size:=(x a o e).lt
theorem HOk.fresh (x:HOk P w H h) (e:h.objs.size≤a):H a=none:=by
  cases q:H a with
  | none=>rfl
  | some u=>exact absurd (Nat.lt_of_lt_of_le (x.lt q) e) (Nat.lt_irrefl _)
theorem HOk.kept (x:HOk P w H h) (k:∀ b u,h.get? b=some u→h'.get? b=some u):HOk P w H h':=fun a o e =>
  (x a o e).stay (fun b u _ q=>k b u q) (fun _ q=>q) fun _ _ q=>q
theorem HOk.laid (x:HOk P w H h) (k:∀ b u,h.get? b=some u→h'.get? b=some u) (hp:h.objs.size≤a) (new:ObjOk P w (upd H a o) h' a o):HOk P w (upd H a o) h':=fun b u e=>by
  have hn:=x.fresh hp
  by_cases hb:b=a
  · subst hb;rw [upd_same] at e;cases e;exact new
  · rw [upd_ne hb] at e
    exact (x b u e).stay (fun c v _ q=>k c v q) (fun c q=>by rw [upd_ne (ne_of_none q hn)];exact q) fun c xs q=>by rw [upd_ne (ne_of_none q hn)];exact q
end
noncomputable def Rd (H:Hp) (a:Addr) (u:HO):Prop:=H a=some u∨∃ o,H a=some (.frz o u)
theorem Rd.ok {P:Program} {w:World} {H:Hp} {h:Heap} {a:Addr} {u:HO} (r:Rd H a u) (x:HOk P w H h):ObjOk P w H h a u:=by
  rcases r with r | ⟨o,r⟩
  · exact x a u r
  · obtain ⟨_,q⟩:=x a _ r
    exact q
noncomputable def Mut:Option HO→Prop
  | some (.lst _)=>True
  | some (.dK _)=>True
  | some (.dT _)=>True
  | some (.set _ _)=>True
  | some (.ins _ _ _)=>True
  | some (.ext _)=>True
  | _=>False
section
variable {P:Program} {w:World} {H:Hp} {h h':Heap} {x e:Addr} {o':HO}
theorem HOk.write (ok:HOk P w H h) (mu:Mut (H x)) (he:e=x∨H e=some (.own x)) (k:∀ b u,b≠e→h.get? b=some u→h'.get? b=some u) (heo:∃ u,h'.get? e=some u)
    (new:ObjOk P w (upd H x o') h' x o'):HOk P w (upd H x o') h':=fun b u q=>by
  have nown:∀ c y,H c=some (.own y)→c≠x:=fun c y r z=>by subst z;rw [r] at mu;exact mu
  have ntup:∀ c xs,H c=some (.tup xs)→c≠x:=fun c xs r z=>by subst z;rw [r] at mu;exact mu
  by_cases hb:b=x
  · subst hb;rw [upd_same] at q;cases q;exact new
  · rw [upd_ne hb] at q
    by_cases hbe:b=e
    · have q':H b=some (.own x):=by
        rcases he with z | z
        · exact absurd (hbe.trans z) hb
        · rw [hbe];exact z
      rw [q] at q';cases q'
      obtain ⟨v,hv⟩:=heo
      exact ⟨v,by rw [hbe];exact hv⟩
    · refine (ok b u q).stay (fun c v hc r=>k c v ?_ r) (fun c r=>by rw [upd_ne (nown c b r)];exact r) fun c xs r=>by rw [upd_ne (ntup c xs r)];exact r
      rcases hc with rfl | hc
      · exact hbe
      · rintro rfl
        rcases he with z | z
        · exact nown c b hc z
        · rw [hc] at z;cases z;exact hb rfl
end
structure Un (fs ex:List Addr) (H H':Hp) (h h':Heap):Prop where
  keep:∀ b o,h.get? b=some o→H b=none→b∉fs→b∉ex→h'.get? b=some o
  slot:∀ b o,h.get? b=some o→H b=none→b∈fs→b∉ex→∃ sl,h'.get? b=some {o with slots:=sl}
  free:∀ b o,h.get? b=some o→H b=none→b∉ex→H' b=none
  there:∀ b o,h.get? b=some o→b∉ex→∃ o',h'.get? b=some o'
  tups:∀ b xs,H b=some (.tup xs)→H' b=some (.tup xs)
  frzs:∀ b o u,H b=some (.frz o u)→H' b=some (.frz o u)
  tbls:∀ b ps,H b=some (.tbl ps)→∃ more,H' b=some (.tbl (ps++more))
section
variable {fs fs' ex ex':List Addr} {H H1 H2:Hp} {h h1 h2 h':Heap} {a x e:Addr} {o:HO}
theorem Un.any (u:Un fs ex H H1 h h1) {b:Addr} {ob:Obj} (q:h.get? b=some ob) (n:H b=none) (hx:b∉ex):∃ sl,h1.get? b=some {ob with slots:=sl}:=by
  by_cases hb:b∈fs
  · exact u.slot b ob q n hb hx
  · exact ⟨ob.slots,u.keep b ob q n hb hx⟩
theorem Un.kept (k:∀ b u,h.get? b=some u→h'.get? b=some u):Un fs ex H H h h' :=
  ⟨fun b ob q _ _ _=>k b ob q,fun b ob q _ _ _=>⟨ob.slots,k b ob q⟩,fun _ _ _ n _=>n,fun b ob q _=>⟨ob,k b ob q⟩,fun _ _ q=>q,fun _ _ _ q=>q,fun _ ps q=>⟨#[],by rw [q];simp⟩⟩
theorem Un.refl:Un fs ex H H h h:=Un.kept fun _ _ q=>q
theorem Un.laid (k:∀ b u,h.get? b=some u→h'.get? b=some u) (hp:h.objs.size≤a) (hn:H a=none):Un fs ex H (upd H a o) h h' where
  keep:=fun b u q _ _ _=>k b u q
  slot:=fun b u q _ _ _=>⟨u.slots,k b u q⟩
  free:=fun b u q n _=>by rw [upd_ne (Nat.ne_of_lt (Nat.lt_of_lt_of_le (Heap.lt_size q) hp))];exact n
  there:=fun b u q _=>⟨u,k b u q⟩
  tups:=fun b xs q=>by rw [upd_ne (ne_of_none q hn)];exact q
  frzs:=fun b u xs q=>by rw [upd_ne (ne_of_none q hn)];exact q
  tbls:=fun b ps q=>⟨#[],by rw [upd_ne (ne_of_none q hn),q];simp⟩
theorem Un.write (mu:Mut (H x)) (he:e=x∨H e=some (.own x)) (k:∀ b u,b≠e→h.get? b=some u→h'.get? b=some u) (heo:∃ u,h'.get? e=some u):Un fs ex H (upd H x o) h h':=by
  have hx:∀ b,H b=none→b≠x:=fun b n z=>by subst z;rw [n] at mu;exact mu
  have hb:∀ b,H b=none→b≠e:=fun b n z=>by
    subst z
    rcases he with r | r
    · exact hx b n r
    · rw [n] at r;cases r
  have hm:∀ b u,H b=some u→¬ Mut (some u)→b≠x:=fun b u q nm z=>by subst z;rw [q] at mu;exact nm mu
  refine ⟨fun b u q n _ _=>k b u (hb b n) q,fun b u q n _ _=>⟨u.slots,k b u (hb b n) q⟩,fun b u q n _=>by rw [upd_ne (hx b n)];exact n,fun b u q _=>?_,
    fun b xs q=>by rw [upd_ne (hm b _ q fun z=>z)];exact q,fun b u xs q=>by rw [upd_ne (hm b _ q fun z=>z)];exact q,fun b ps q=>⟨#[],by rw [upd_ne (hm b _ q fun z=>z),q];simp⟩⟩
  by_cases hbe:b=e
  · subst hbe;exact heo
  · exact ⟨u,k b u hbe q⟩
end
noncomputable def trk (h:Heap) (H:Hp):List Addr:=(List.range h.objs.size).filter fun a=>(H a).isSome
noncomputable def hidT (h:Heap) (H:Hp):Heap:=PySem.W.hideAll h (trk h H)
theorem hidT_size (h:Heap) (H:Hp):(hidT h H).objs.size=h.objs.size:=PySem.W.hideAll_size _ _
theorem hidT_get {h:Heap} {H:Hp} {b:Addr} {o:Obj} (e:h.get? b=some o) (n:H b=none):(hidT h H).get? b=some o :=
  PySem.W.hideAll_get _ e fun hm=>by
    have q:(H b).isSome=true:=(List.mem_filter.mp hm).2
    rw [n] at q;simp at q
theorem of_hidT {h:Heap} {H:Hp} {b:Addr} {o:Obj} (e:(hidT h H).get? b=some o):h.get? b=some o∧H b=none:=by
  have e':h.get? b=some o:=PySem.W.of_hideAll (trk h H) e
  refine ⟨e',?_⟩
  cases q:H b with
  | none=>rfl
  | some x =>
    have hm:b∈trk h H:=List.mem_filter.mpr ⟨List.mem_range.mpr (Heap.lt_size e'),by simp [q]⟩
    have z:(hidT h H).get? b=none:=PySem.W.hideAll_none (trk h H) hm
    rw [z] at e;cases e
noncomputable def allNews (g h:Heap) (L:Addr):List (Addr×Obj):=(List.range h.objs.size).filterMap fun a=>if a=L∨(g.get? a).isSome=true then none else (h.get? a).map fun o=>(a,o)
noncomputable def rest (g h:Heap) (L d:Addr):List (Addr×Obj):=(allNews g h L).filter fun p=>decide (p.1≠d)
end L2
namespace L2
open PySem PySem.Spec PyProof.Rows
structure Mod (K:PySem.W.Frag) (mg:Str→Option Value) (base:Heap):Prop where
  kin:K.In base
  glob:base.Ns mainGlobals mg
  blt:∃ mb,base.Ns builtinsNs mb∧∀ x:Str,x≠"__name__"→mb x=bootBuiltins x
  nolimit:base.NoLimit
structure Cx where
  prog:Program
  w:World
  K:PySem.W.Frag
  mg:Str→Option Value
  base:Heap
  A:Around
  N:List Str
  s₀:Shared
  H₀:Hp
  env:Env
  outer:List Env
  stack:List Env
  ex:List Addr
  fn:Str→Bool
  calm:Bool
  pn:List (Addr×Obj)
  xe:Value→Shared→Prop
noncomputable def frs (l:List Env):List Addr:=l.filterMap (·.frame)
noncomputable abbrev Cx.fs (X:Cx):List Addr:=frs X.outer
noncomputable def Vis (sc:Scope) (x:Str):Prop:=sc.names.lookup x=some .local∨sc.names.lookup x=some .cell∨sc.names.lookup x=some .free
noncomputable def Loc (sc:Scope) (x:Str):Prop:=sc.names.lookup x=some .local∨sc.names.lookup x=some .cell
noncomputable def Look (env:Env) (h:Heap) (m:Str→Option Value) (x:Str) (u:Value):Prop :=
  (env.kindOf x=some .local∧m x=some u)∨((env.kindOf x=some .cell∨env.kindOf x=some .free)∧∃ c,env.cells.lookup x=some c∧h.IsCell c (some u))
structure Cx.Ok (X:Cx):Prop where
  mod:Mod X.K X.mg X.base
  kind:X.env.scope.kind=.function
  glob:X.env.globals=mainGlobals
  blt:X.env.builtins=builtinsNs
  above:X.s₀.heap.objs.size≤X.env.locals
  inj:∀ x y c,X.env.cells.lookup x=some c→X.env.cells.lookup y=some c→x=y
  has:∀ x,(X.env.kindOf x=some .cell∨X.env.kindOf x=some .free)→∃ c,X.env.cells.lookup x=some c
  cab:∀ x c,X.fn x=true→X.env.cells.lookup x=some c→X.s₀.heap.objs.size≤c
  hd:X.calm=true→X.A.handled=none
  frames:X.A.frames=some X.stack
  stk:X.stack=X.outer∨(X.stack=X.env::X.outer∧X.env.frame=some X.env.locals)
  exf:∀ b∈X.ex,b≠X.env.locals∧∀ x c,X.env.cells.lookup x=some c→c≠b
  bs:∀ b o,X.base.get? b=some o→X.s₀.heap.get? b=some o∧X.H₀ b=none
  bsz:X.base.objs.size≤X.s₀.heap.objs.size
  noex:∀ b o,X.base.get? b=some o→b∉X.ex
  exfs:∀ b∈X.ex,b∉X.fs
  funs:X.s₀.heap.FunFrames X.base X.outer
  frf:∀ b∈X.fs,X.H₀ b=none
structure Inv (X:Cx) (pins:List (Addr×Obj)) (σ:List (Option V)) (H:Hp) (s:Shared):Prop where
  ok:X.Ok
  os:s.os=X.s₀.os
  bare:AllBare s.gens
  base:Un X.fs X.ex X.H₀ H X.s₀.heap s.heap
  loc:∃ m,s.heap.Ns X.env.locals m∧∀ (i:Nat) (x:Str) (v:V),X.N[i]?=some x→σ[i]?=some (some v)→Vis X.env.scope x→∃ u,RelV v u∧Look X.env s.heap m x u
  cell:∀ x c,X.env.cells.lookup x=some c→∃ v,s.heap.IsCell c v
  free:H X.env.locals=none
  freeC:∀ x c,X.env.cells.lookup x=some c→H c=none
  pin:∀ p∈X.pn++pins,s.heap.get? p.1=some p.2∧H p.1=none∧p.1≠X.env.locals∧p.1∉X.fs∧∀ v,p.2.data≠.cell v
  hok:HOk X.prog X.w H s.heap
  len:σ.length=X.N.length
section
variable {X:Cx} {pins:List (Addr×Obj)} {σ:List (Option V)} {H H':Hp} {s:Shared} {h':Heap}
theorem Cx.Ok.nofr (ok:X.Ok) {b:Addr} {o:Obj} (e:X.base.get? b=some o):b∉X.fs:=fun hb=>by
  have:=(ok.funs.mem hb).1
  rw [e] at this;cases this
theorem Inv.bs (I:Inv X pins σ H s):∀ b o,X.base.get? b=some o→s.heap.get? b=some o∧H b=none:=fun b o e =>
  ⟨I.base.keep b o (I.ok.bs b o e).1 (I.ok.bs b o e).2 (I.ok.nofr e) (I.ok.noex b o e),I.base.free b o (I.ok.bs b o e).1 (I.ok.bs b o e).2 (I.ok.noex b o e)⟩
theorem Inv.bk (I:Inv X pins σ H s):∀ b o,X.base.get? b=some o→s.heap.get? b=some o:=fun b o e=>(I.bs b o e).1
theorem Inv.mod (I:Inv X pins σ H s):Mod X.K X.mg X.base:=I.ok.mod
theorem Inv.kIn (I:Inv X pins σ H s):X.K.In s.heap:=I.ok.mod.kin.keeps I.bk
theorem Inv.fr (I:Inv X pins σ H s):∃ m,Fr X.base X.env.locals s.heap m :=
  let ⟨m,hn,_⟩:=I.loc
  ⟨m,hn,I.bk,Nat.le_trans I.ok.bsz I.ok.above⟩
theorem Inv.lt (I:Inv X pins σ H s):X.env.locals<s.heap.objs.size:=let ⟨_,hn,_⟩:=I.loc;hn.lt
theorem Inv.sz (I:Inv X pins σ H s):X.s₀.heap.objs.size≤s.heap.objs.size:=Nat.le_trans I.ok.above (Nat.le_of_lt I.lt)
theorem Inv.nofs (I:Inv X pins σ H s) {a:Addr} (h:s.heap.objs.size≤a):a∉X.fs:=fun hb=>by
  obtain ⟨_,o,ho,_⟩:=I.ok.funs.mem hb
  exact absurd (Nat.lt_of_lt_of_le (Heap.lt_size ho) (Nat.le_trans I.sz h)) (Nat.lt_irrefl _)
theorem Inv.cne (I:Inv X pins σ H s):∀ x c,X.env.cells.lookup x=some c→c≠X.env.locals:=fun x c e z=>by
  obtain ⟨v,o,ho,hd⟩:=I.cell x c e
  obtain ⟨m,⟨o',es,ep,ho',hd',_⟩,_⟩:=I.loc
  rw [z,ho'] at ho;cases ho;rw [hd'] at hd;cases hd
theorem Inv.funs (I:Inv X pins σ H s):s.heap.FunFrames X.base X.outer:=by
  have all:∀ (l:List Env),(∀ b∈frs l,b∈X.fs)→X.s₀.heap.FunFrames X.base l→s.heap.FunFrames X.base l:=by
    intro l
    induction l with
    | nil=>intro _ _;trivial
    | cons env r ih =>
      intro hs hl
      obtain ⟨hk,⟨L,o,hf,hn,ho,hd⟩,hr⟩:=hl
      have hL:L∈X.fs:=hs L (by unfold frs;rw [List.filterMap_cons,hf];exact List.mem_cons_self)
      obtain ⟨sl,e⟩:=I.base.slot L o ho (I.ok.frf L hL) hL fun z=>I.ok.exfs L z hL
      exact ⟨hk,⟨L,_,hf,hn,e,hd⟩,ih (fun b hb=>hs b (by unfold frs;rw [List.filterMap_cons,hf];exact List.mem_cons_of_mem _ hb)) hr⟩
  exact all X.outer (fun _ hb=>hb) I.ok.funs
theorem Inv.stack (I:Inv X pins σ H s):s.heap.FunFrames X.base X.stack:=by
  rcases I.ok.stk with e | ⟨e,hf⟩
  · rw [e];exact I.funs
  · rw [e]
    obtain ⟨m,hn,_⟩:=I.loc
    refine .cons (by rw [I.ok.kind];decide) hf hn ?_ I.funs
    exact Heap.get?_none_of_le (Nat.le_trans I.ok.bsz I.ok.above)
theorem Inv.stkSub (I:Inv X pins σ H s):∀ b∈frs X.stack,b∈X.env.locals::X.fs:=fun b hb=>by
  rcases I.ok.stk with e | ⟨e,hf⟩
  · rw [e] at hb;exact List.mem_cons_of_mem _ hb
  · rw [e] at hb
    unfold frs at hb
    rw [List.filterMap_cons,hf] at hb
    exact hb
theorem Inv.stkFree (I:Inv X pins σ H s):∀ b∈frs X.stack,H b=none:=fun b hb=>by
  rcases List.mem_cons.mp (I.stkSub b hb) with e | hb
  · rw [e];exact I.free
  · obtain ⟨_,o,ho,_⟩:=I.ok.funs.mem hb
    exact I.base.free b o ho (I.ok.frf b hb) fun z=>I.ok.exfs b z hb
theorem Inv.step {g':Array GenState} {t':Nat} {d':Drawn} {ch:List Addr} (I:Inv X pins σ H s)
    (hch:∀ b∈ch,(b∈X.ex∨X.s₀.heap.objs.size≤b)∧b≠X.env.locals∧(∀ x c,X.env.cells.lookup x=some c→c≠b)∧∀ p∈X.pn++pins,p.1≠b)
    (keep:∀ b o,b≠X.env.locals→b∉X.fs→b∉ch→s.heap.get? b=some o→H b=none→h'.get? b=some o)
    (slot:∀ b o,b≠X.env.locals→b∈X.fs→b∉ch→s.heap.get? b=some o→H b=none→∃ sl,h'.get? b=some {o with slots:=sl}) (free:∀ b o,b∉ch→s.heap.get? b=some o→H b=none→H' b=none)
    (there:∀ b o,b∉ch→s.heap.get? b=some o→∃ o',h'.get? b=some o')
    (tups:∀ b xs,H b=some (.tup xs)→H' b=some (.tup xs)) (frzs:∀ b o u,H b=some (.frz o u)→H' b=some (.frz o u)) (tbls:∀ b ps,H b=some (.tbl ps)→∃ more,H' b=some (.tbl (ps++more)))
    (ns:∀ m,s.heap.Ns X.env.locals m→h'.Ns X.env.locals m) (hok:HOk X.prog X.w H' h') (hg:AllBare g') :
    Inv X pins σ H' {s with heap:=h',gens:=g',drawn:=d',toks:=t'}:=by
  have neL:∀ b o,X.s₀.heap.get? b=some o→b≠X.env.locals:=fun b o e=>Nat.ne_of_lt (Nat.lt_of_lt_of_le (Heap.lt_size e) I.ok.above)
  have neC:∀ b o,X.s₀.heap.get? b=some o→b∉X.ex→b∉ch:=fun b o e hx hb=>by
    rcases (hch b hb).1 with z | z
    · exact hx z
    · exact absurd (Nat.lt_of_lt_of_le (Heap.lt_size e) z) (Nat.lt_irrefl _)
  have cellK:∀ x c,X.env.cells.lookup x=some c→∀ v,s.heap.IsCell c v→h'.IsCell c v:=fun x c e v ⟨o,ho,hd⟩=>by
    have nch:c∉ch:=fun z=>(hch c z).2.2.1 x c e rfl
    by_cases hc:c∈X.fs
    · obtain ⟨sl,q⟩:=slot c o (I.cne x c e) hc nch ho (I.freeC x c e)
      exact ⟨_,q,hd⟩
    · exact ⟨o,keep c o (I.cne x c e) hc nch ho (I.freeC x c e),hd⟩
  refine ⟨I.ok,I.os,hg,⟨fun b o e n hb hx=>?_,fun b o e n hb hx=>?_,fun b o e n hx=>?_,fun b o e hx=>?_,fun b xs e=>tups b xs (I.base.tups b xs e),fun b o xs e=>frzs b o xs (I.base.frzs b o xs e),fun b ps e=>?_⟩,?_,fun x c e=>?_,?_,fun x c e=>?_,fun p hp=>?_,hok,I.len⟩
  · exact keep b o (neL b o e) hb (neC b o e hx) (I.base.keep b o e n hb hx) (I.base.free b o e n hx)
  · obtain ⟨sl,e1⟩:=I.base.slot b o e n hb hx
    obtain ⟨sl',e2⟩:=slot b _ (neL b o e) hb (neC b o e hx) e1 (I.base.free b o e n hx)
    exact ⟨sl',e2⟩
  · obtain ⟨o',e1⟩:=I.base.there b o e hx
    exact free b o' (neC b o e hx) e1 (I.base.free b o e n hx)
  · obtain ⟨o',e1⟩:=I.base.there b o e hx
    exact there b o' (neC b o e hx) e1
  · obtain ⟨m1,e1⟩:=I.base.tbls b ps e
    obtain ⟨m2,e2⟩:=tbls b _ e1
    exact ⟨m1++m2,by rw [e2,Array.append_assoc]⟩
  · obtain ⟨m,hn,hl⟩:=I.loc
    refine ⟨m,ns m hn,fun i x v e1 e2 e3=>?_⟩
    obtain ⟨u,r,l⟩:=hl i x v e1 e2 e3
    refine ⟨u,r,?_⟩
    rcases l with l | ⟨k,c,e,z⟩
    · exact .inl l
    · exact .inr ⟨k,c,e,cellK x c e _ z⟩
  · obtain ⟨v,z⟩:=I.cell x c e
    exact ⟨v,cellK x c e v z⟩
  · obtain ⟨m,⟨o,_,_,ho,_⟩,_⟩:=I.loc
    exact free _ o (fun z=>(hch _ z).2.1 rfl) ho I.free
  · obtain ⟨v,o,ho,hd⟩:=I.cell x c e
    exact free c o (fun z=>(hch c z).2.2.1 x c e rfl) ho (I.freeC x c e)
  · obtain ⟨e,n,ne,nf,d⟩:=I.pin p hp
    have nch:p.1∉ch:=fun z=>(hch p.1 z).2.2.2 p hp rfl
    exact ⟨keep p.1 p.2 ne nf nch e n,free p.1 p.2 nch e n,ne,nf,d⟩
theorem Inv.un {t':Nat} (I:Inv X pins σ H s) (u:Un X.fs [] H H' s.heap h') (hok:HOk X.prog X.w H' h'):Inv X pins σ H' {s with heap:=h',toks:=t'}:=by
  obtain ⟨m,⟨o,es,ep,ho,r⟩,_⟩:=id I.loc
  obtain ⟨sl,hL⟩:=u.any ho I.free (by simp)
  exact I.step (g':=s.gens) (d':=s.drawn) (ch:=[]) (fun _ z=>nomatch z) (fun b o _ hb _ e n=>u.keep b o e n hb (by simp)) (fun b o _ hb _ e n=>u.slot b o e n hb (by simp)) (fun b o _ e n=>u.free b o e n (by simp)) (fun b o _ e=>u.there b o e (by simp)) u.tups u.frzs u.tbls (fun m' hm=>by
    obtain ⟨o',es',ep',ho',r'⟩:=hm
    rw [ho] at ho';cases ho'
    exact ⟨_,es',ep',hL,r'⟩) hok I.bare
theorem Inv.call {g':Array GenState} {t':Nat} {d':Drawn} {ch:List Addr} (I:Inv X pins σ H s) (u:Un (frs X.stack) ch H H' s.heap h') (hok:HOk X.prog X.w H' h') (hg:AllBare g')
    (hch:∀ b∈ch,(b∈X.ex∨X.s₀.heap.objs.size≤b)∧b≠X.env.locals∧(∀ x c,X.env.cells.lookup x=some c→c≠b)∧∀ p∈X.pn++pins,p.1≠b) :
    Inv X pins σ H' {s with heap:=h',gens:=g',drawn:=d',toks:=t'}:=by
  obtain ⟨m,⟨o,es,ep,ho,r⟩,_⟩:=id I.loc
  obtain ⟨sl,hL⟩:=u.any ho I.free fun z=>(hch _ z).2.1 rfl
  exact I.step (ch:=ch) hch (fun b o hL hb hc e n=>u.keep b o e n (fun z=>(List.mem_cons.mp (I.stkSub b z)).elim hL hb) hc) (fun b o _ _ hc e n=>u.any e n hc) (fun b o hc e n=>u.free b o e n hc) (fun b o hc e=>u.there b o e hc) u.tups u.frzs u.tbls (fun m' hm=>by
    obtain ⟨o',es',ep',ho',r'⟩:=hm
    rw [ho] at ho';cases ho'
    exact ⟨_,es',ep',hL,r'⟩) hok hg
theorem Inv.turned {t':Nat} {it:Addr} (I:Inv X pins σ H s) (k:∀ b o,b≠it→s.heap.get? b=some o→h'.get? b=some o) (hn:H it=none) (hL:it≠X.env.locals)
    (h1:it∈X.ex∨X.s₀.heap.objs.size≤it) (h2:∀ x c,X.env.cells.lookup x=some c→c≠it) (h3:∀ p∈X.pn++pins,p.1≠it):Inv X pins σ H {s with heap:=h',toks:=t'}:=by
  have nit:∀ b u,H b=some u→b≠it:=fun b u e z=>by rw [z,hn] at e;cases e
  refine I.step (g':=s.gens) (d':=s.drawn) (ch:=[it]) (fun b hb=>?_) (fun b o _ _ hc e _=>k b o (fun z=>hc (by simp [z])) e) (fun b o _ _ hc e _=>⟨o.slots,k b o (fun z=>hc (by simp [z])) e⟩) (fun _ _ _ _ n=>n)
    (fun b o hc e=>⟨o,k b o (fun z=>hc (by simp [z])) e⟩) (fun _ _ e=>e) (fun _ _ _ e=>e) (fun b ps e=>⟨#[],by rw [e];simp⟩) (fun m hm=>?_) (fun b u e=>?_) I.bare
  · have e:b=it:=by simpa using hb
    subst e
    exact ⟨h1,hL,h2,h3⟩
  · obtain ⟨o,es,ep,ho,r⟩:=hm
    exact ⟨o,es,ep,k _ o (Ne.symm hL) ho,r⟩
  · refine (I.hok b u e).stay (fun c v hc q=>k c v ?_ q) (fun _ q=>q) fun _ _ q=>q
    rcases hc with z | z
    · rw [z];exact nit b u e
    · exact nit c _ z
theorem Inv.tok (I:Inv X pins σ H s) (t:Nat):Inv X pins σ H {s with toks:=t}:=I.un (h':=s.heap) (t':=t) Un.refl I.hok
theorem Inv.kept {t':Nat} (I:Inv X pins σ H s) (k:∀ b u,s.heap.get? b=some u→h'.get? b=some u):Inv X pins σ H {s with heap:=h',toks:=t'}:=I.un (Un.kept k) (I.hok.kept k)
theorem Inv.laid {a:Addr} {o:HO} {t':Nat} (I:Inv X pins σ H s) (k:∀ b u,s.heap.get? b=some u→h'.get? b=some u) (hp:s.heap.objs.size≤a) (new:ObjOk X.prog X.w (upd H a o) h' a o) :
    Inv X pins σ (upd H a o) {s with heap:=h',toks:=t'}:=I.un (Un.laid k hp (I.hok.fresh hp)) (I.hok.laid k hp new)
theorem Inv.write {x e:Addr} {o:HO} {t':Nat} (I:Inv X pins σ H s) (mu:Mut (H x)) (he:e=x∨H e=some (.own x)) (k:∀ b u,b≠e→s.heap.get? b=some u→h'.get? b=some u) (heo:∃ u,h'.get? e=some u)
    (new:ObjOk X.prog X.w (upd H x o) h' x o):Inv X pins σ (upd H x o) {s with heap:=h',toks:=t'}:=I.un (Un.write mu he k heo) (I.hok.write mu he k heo new)
theorem Inv.weak {σ':List (Option V)} (I:Inv X pins σ H s) (hl:σ'.length=σ.length) (w:∀ (i:Nat) v,σ'[i]?=some (some v)→σ[i]?=some (some v)):Inv X pins σ' H s :=
  ⟨I.ok,I.os,I.bare,I.base,let ⟨m,hn,hl'⟩:=I.loc;⟨m,hn,fun i x v e1 e2 e3=>hl' i x v e1 (w i v e2) e3⟩,I.cell,I.free,I.freeC,I.pin,I.hok,hl.trans I.len⟩
theorem Inv.pins_of {pins':List (Addr×Obj)} (I:Inv X pins σ H s) (h:∀ p∈pins',s.heap.get? p.1=some p.2∧H p.1=none∧p.1≠X.env.locals∧p.1∉X.fs∧∀ v,p.2.data≠.cell v):Inv X pins' σ H s :=
  ⟨I.ok,I.os,I.bare,I.base,I.loc,I.cell,I.free,I.freeC,fun p hp=>(List.mem_append.mp hp).elim (fun z=>I.pin p (List.mem_append_left _ z)) (h p),I.hok,I.len⟩
theorem nodup_ix {N:List Str} (hN:N.Nodup) {i j:Nat} {x:Str} (a:N[i]?=some x) (b:N[j]?=some x):i=j:=by
  obtain ⟨h1,e1⟩:=List.getElem?_eq_some_iff.mp a
  obtain ⟨h2,e2⟩:=List.getElem?_eq_some_iff.mp b
  exact (List.getElem_inj hN).mp (e1.trans e2.symm)
theorem store_ok2 {M:Model} {A:Around} {E:Value→Shared→Prop} {i:Nat} {x:Str} {v:V} {u:Value} {Q:Unit→Shared→Prop} (I:Inv X pins σ H s) (hN:X.N.Nodup) (hi:X.N[i]?=some x) (hx:Loc X.env.scope x) (r:RelV v u)
    (h:∀ s',Inv X pins (σ.set i (some v)) H s'→(∃ a,Heap.SameBut a s.heap s'.heap∧(a=X.env.locals∨X.env.cells.lookup x=some a))→Q () s') (hf:X.fn x=true∨X.env.scope.names.lookup x=some .local:=by first | exact .inl rfl | exact .inr rfl | assumption):wpAny M A (storeName X.env x u) Q E s:=by
  obtain ⟨m,hn,hl⟩:=id I.loc
  have hcls:(X.env.scope.kind==.class || (X.env.scope.kind==.module&&X.env.locals != X.env.globals))=false:=by rw [I.ok.kind];rfl
  have hiσ:i<σ.length:=by rw [I.len];exact (List.getElem?_eq_some_iff.mp hi).1
  have cne:=I.cne
  have tracked:∀ {a:Addr} {h':Heap},(∃ o,s.heap.get? a=some o∧H a=none)→Heap.SameBut a s.heap h'→HOk X.prog X.w H h':=fun {a h'} ha hs b ob e=>by
    obtain ⟨_,_,hfree⟩:=ha
    refine (I.hok b ob e).stay (fun c w' hc q=>(hs.2 c ?_).trans q) (fun _ q=>q) fun _ _ q=>q
    rintro rfl
    rcases hc with rfl | hc
    · rw [hfree] at e;cases e
    · rw [hfree] at hc;cases hc
  rcases hx with hk | hk
  · refine wpAny_storeName_local hk hn (fun h' hn' hs=>?_) hcls
    obtain ⟨oL,_,_,hoL,_⟩:=id hn
    refine h _ ⟨I.ok,I.os,I.bare,⟨fun b o e n hb hx=>?_,fun b o e n hb hx=>?_,I.base.free,fun b o e hx=>?_,I.base.tups,I.base.frzs,I.base.tbls⟩,⟨_,hn',fun j y v' e1 e2 e3=>?_⟩,fun y c e=>?_,I.free,I.freeC,fun p hp=>?_,tracked ⟨oL,hoL,I.free⟩ hs,by simpa using I.len⟩ ⟨_,hs,.inl rfl⟩
    · exact (hs.2 b (Nat.ne_of_lt (Nat.lt_of_lt_of_le (Heap.lt_size e) I.ok.above))).trans (I.base.keep b o e n hb hx)
    · obtain ⟨sl,e1⟩:=I.base.slot b o e n hb hx
      exact ⟨sl,(hs.2 b (Nat.ne_of_lt (Nat.lt_of_lt_of_le (Heap.lt_size e) I.ok.above))).trans e1⟩
    · obtain ⟨o',e1⟩:=I.base.there b o e hx
      exact ⟨o',(hs.2 b (Nat.ne_of_lt (Nat.lt_of_lt_of_le (Heap.lt_size e) I.ok.above))).trans e1⟩
    · by_cases hj:j=i
      · subst hj
        rw [hi] at e1;cases e1
        rw [List.getElem?_set_self hiσ] at e2
        cases e2
        exact ⟨u,r,.inl ⟨hk,by simp⟩⟩
      · rw [List.getElem?_set_ne (Ne.symm hj)] at e2
        obtain ⟨u',r',q⟩:=hl j y v' e1 e2 e3
        refine ⟨u',r',?_⟩
        rcases q with ⟨k,e⟩ | ⟨k,c,e,z⟩
        · refine .inl ⟨k,?_⟩
          have:y≠x:=fun e=>hj (nodup_ix hN e1 (e▸hi))
          simp [this,e]
        · exact .inr ⟨k,c,e,z.sameBut hs (cne y c e)⟩
    · obtain ⟨w',z⟩:=I.cell y c e
      exact ⟨w',z.sameBut hs (cne y c e)⟩
    · obtain ⟨e,n,ne,nf,d⟩:=I.pin p hp
      exact ⟨(hs.2 p.1 ne).trans e,n,ne,nf,d⟩
  · have hfn:X.fn x=true:=by
      rcases hf with z | z
      · exact z
      · rw [z] at hk;cases hk
    obtain ⟨c,hc⟩:=I.ok.has x (.inl hk)
    obtain ⟨w',z⟩:=I.cell x c hc
    refine wpAny_storeName_cell I.ok.kind hk hc z (fun h' hc' hs=>?_)
    obtain ⟨oc,hoc,hocd⟩:=id z
    refine h {s with heap:=h'} ⟨I.ok,I.os,I.bare,⟨fun b o e n hb hx=>?_,fun b o e n hb hx=>?_,I.base.free,fun b o e hx=>?_,I.base.tups,I.base.frzs,I.base.tbls⟩,⟨m,hn.sameBut hs (Ne.symm (cne x c hc)),fun j y v' e1 e2 e3=>?_⟩,fun y c' e=>?_,I.free,I.freeC,fun p hp=>?_,tracked ⟨oc,hoc,I.freeC x c hc⟩ hs,by simpa using I.len⟩ ⟨c,hs,.inr hc⟩
    · exact (hs.2 b (Nat.ne_of_lt (Nat.lt_of_lt_of_le (Heap.lt_size e) (I.ok.cab x c hfn hc)))).trans (I.base.keep b o e n hb hx)
    · obtain ⟨sl,e1⟩:=I.base.slot b o e n hb hx
      exact ⟨sl,(hs.2 b (Nat.ne_of_lt (Nat.lt_of_lt_of_le (Heap.lt_size e) (I.ok.cab x c hfn hc)))).trans e1⟩
    · obtain ⟨o',e1⟩:=I.base.there b o e hx
      exact ⟨o',(hs.2 b (Nat.ne_of_lt (Nat.lt_of_lt_of_le (Heap.lt_size e) (I.ok.cab x c hfn hc)))).trans e1⟩
    · by_cases hj:j=i
      · subst hj
        rw [hi] at e1;cases e1
        rw [List.getElem?_set_self hiσ] at e2
        cases e2
        exact ⟨u,r,.inr ⟨.inl hk,c,hc,hc'⟩⟩
      · rw [List.getElem?_set_ne (Ne.symm hj)] at e2
        obtain ⟨u',r',q⟩:=hl j y v' e1 e2 e3
        refine ⟨u',r',?_⟩
        rcases q with q | ⟨k,c',e,z'⟩
        · exact .inl q
        · refine .inr ⟨k,c',e,z'.sameBut hs ?_⟩
          rintro rfl
          exact hj (nodup_ix hN e1 (I.ok.inj _ _ _ e hc▸hi))
    · by_cases hcc:c'=c
      · subst hcc;exact ⟨_,hc'⟩
      · obtain ⟨w2,z2⟩:=I.cell y c' e
        exact ⟨w2,z2.sameBut hs hcc⟩
    · obtain ⟨e,n,ne,nf,d⟩:=I.pin p hp
      refine ⟨(hs.2 p.1 ?_).trans e,n,ne,nf,d⟩
      intro q
      rw [q,hoc] at e
      have q':oc=p.2:=Option.some.inj e
      exact d w' (by rw [← q'];exact hocd)
theorem store_ok {M:Model} {A:Around} {E:Value→Shared→Prop} {i:Nat} {x:Str} {v:V} {u:Value} {Q:Unit→Shared→Prop} (I:Inv X pins σ H s) (hN:X.N.Nodup) (hi:X.N[i]?=some x) (hx:Loc X.env.scope x) (r:RelV v u)
    (h:∀ s',Inv X pins (σ.set i (some v)) H s'→Q () s') (hf:X.fn x=true∨X.env.scope.names.lookup x=some .local:=by first | exact .inl rfl | exact .inr rfl | assumption):wpAny M A (storeName X.env x u) Q E s :=
  store_ok2 I hN hi hx r (fun s' I' _=>h s' I') hf
end
noncomputable abbrev XK:=Value→Option Addr→Hp→Prop
noncomputable abbrev St:=List (Option V)
noncomputable abbrev VK:=V→Hp→Prop
noncomputable abbrev TE:=St→Hp→VK→Prop
noncomputable abbrev TT:=St→Hp→(Bool→Hp→Prop)→Prop
noncomputable abbrev TA:=St→Hp→(List V→Hp→Prop)→Prop
structure Ends where
  nx:St→Hp→Prop
  rt:VK
  bk:St→Hp→Prop:=fun _ _=>False
  ct:St→Hp→Prop:=fun _ _=>False
noncomputable abbrev TS:=Ends→St→Hp→Prop
noncomputable def EP (X:Cx) (pins:List (Addr×Obj)) (σ:St) (Q:VK) (u:Value) (s':Shared):Prop:=∃ v H',Inv X pins σ H' s'∧RelV v u∧Q v H'
noncomputable def TP (X:Cx) (pins:List (Addr×Obj)) (σ:St) (Q:Bool→Hp→Prop) (b:Bool) (s':Shared):Prop:=∃ H',Inv X pins σ H' s'∧Q b H'
noncomputable def AP (X:Cx) (pins:List (Addr×Obj)) (σ:St) (Q:List V→Hp→Prop) (us:List Value) (s':Shared):Prop:=∃ vs H',Inv X pins σ H' s'∧Vals vs us∧Q vs H'
noncomputable def SP (X:Cx) (pins:List (Addr×Obj)) (D:Ends) (f:Flow) (s':Shared):Prop :=
  match f with
  | .next=>∃ σ' H',Inv X pins σ' H' s'∧D.nx σ' H'
  | .brk=>∃ σ' H',Inv X pins σ' H' s'∧D.bk σ' H'
  | .cont=>∃ σ' H',Inv X pins σ' H' s'∧D.ct σ' H'
  | .ret u=>∃ v σ' H',Inv X pins σ' H' s'∧RelV v u∧D.rt v H'
noncomputable def PE (X:Cx) (e:Expr) (t:TE):Prop :=
  ∀ (pins:List (Addr×Obj)) (s:Shared) (σ:St) (H:Hp) (Q:VK),Inv X pins σ H s→t σ H Q→wpAny (model X.prog X.w) X.A (eval e X.env) (EP X pins σ Q) X.xe s
noncomputable def PT (X:Cx) (e:Expr) (t:TT):Prop :=
  ∀ (pins:List (Addr×Obj)) (s:Shared) (σ:St) (H:Hp) (Q:Bool→Hp→Prop),Inv X pins σ H s→t σ H Q→wpAny (model X.prog X.w) X.A (isTrue e X.env (eval e X.env)) (TP X pins σ Q) X.xe s
noncomputable def PW (X:Cx) (e:Expr) (t:TT):Prop :=
  ∀ (whole:Sem Value) (pins:List (Addr×Obj)) (s:Shared) (σ:St) (H:Hp) (Q:Bool→Hp→Prop),Inv X pins σ H s→t σ H Q→wpAny (model X.prog X.w) X.A (isTrue e X.env whole) (TP X pins σ Q) X.xe s
theorem PW.pt {X:Cx} {e:Expr} {t:TT} (h:PW X e t):PT X e t:=h _
noncomputable def PA (X:Cx) (es:List Expr) (t:TA):Prop :=
  ∀ (pos:Pos) (pins:List (Addr×Obj)) (s:Shared) (σ:St) (H:Hp) (Q:List V→Hp→Prop),Inv X pins σ H s→t σ H Q→wpAny (model X.prog X.w) X.A (spliced (backTo pos (starEach es X.env))) (AP X pins σ Q) X.xe s
noncomputable def PS (X:Cx) (st:Stmt) (t:TS):Prop :=
  ∀ (pins:List (Addr×Obj)) (s:Shared) (σ:St) (H:Hp) (D:Ends),Inv X pins σ H s→t D σ H→wpAny (model X.prog X.w) X.A (exec st X.env) (SP X pins D) X.xe s
noncomputable def PSs (X:Cx) (st:List Stmt) (t:TS):Prop :=
  ∀ (pins:List (Addr×Obj)) (s:Shared) (σ:St) (H:Hp) (D:Ends),Inv X pins σ H s→t D σ H→wpAny (model X.prog X.w) X.A (execs st X.env) (SP X pins D) X.xe s
theorem thn {α:Type} {t:Sem α} {Q Q':α→Shared→Prop} {M:Model} {A:Around} {E:Value→Shared→Prop} {s:Shared} (h:wpAny M A t Q E s) (hQ:∀ a s,Q a s→Q' a s):wpAny M A t Q' E s:=wpAny_mono h hQ fun _ _ x=>x
end L2
namespace L2
open PySem PySem.Spec PyProof.Rows
section
variable {X:Cx}
theorem bin {a b:Expr} {ta tb:TE} (ha:PE X a ta) (hb:PE X b tb) {pins:List (Addr×Obj)} {s:Shared} {σ:St} {H:Hp} {R:V→V→Hp→Prop} (I:Inv X pins σ H s) (h:ta σ H fun x H1=>tb σ H1 fun y H2=>R x y H2)
    {α:Type} {Q:α→Shared→Prop} {f:Value→Value→Sem α}
    (hf:∀ v u s2 x y H2,Inv X pins σ H2 s2→RelV x v→RelV y u→R x y H2→wpAny (model X.prog X.w) X.A (f v u) Q X.xe s2) :
    wpAny (model X.prog X.w) X.A (eval a X.env) (fun v s₁=>wpAny (model X.prog X.w) X.A (eval b X.env) (fun u s₂=>wpAny (model X.prog X.w) X.A (f v u) Q X.xe s₂) X.xe s₁) X.xe s:=by
  refine thn (ha pins s σ H _ I h) fun v s1 ⟨x,H1,I1,r1,q1⟩=>?_
  refine thn (hb pins s1 σ H1 _ I1 q1) fun u s2 ⟨y,H2,I2,r2,q2⟩=>?_
  exact hf v u s2 x y H2 I2 r1 r2 q2
noncomputable def tVar (i:Nat):TE:=fun σ H Q=>∃ v,σ[i]?=some (some v)∧Q v H
noncomputable def tC (v:V):TE:=fun _ H Q=>Q v H
theorem pe_var {i:Nat} {x:Str} {pos:Pos} (hN:X.N[i]?=some x) (hv:Vis X.env.scope x) (hd:(x==("__debug__":Str))=false:=by decide) (hcd:(x==("__classdict__":Str))=false:=by decide):PE X (.Name x pos) (tVar i):=by
  intro pins s σ H Q I h
  obtain ⟨v,e,h⟩:=h
  obtain ⟨m,hn,hl⟩:=I.loc
  obtain ⟨u,r,l⟩:=hl i x v hN e hv
  have fin:EP X pins σ Q u s:=⟨v,H,I,r,h⟩
  rcases l with ⟨hk,hm⟩ | ⟨hk,c,hc,hcell⟩
  · exact wpAny_Name (wpAny_loadName_local I.ok.kind hk hn hm fin) hd
  · rcases hk with hk | hk
    · exact wpAny_Name (wpAny_loadName_cell I.ok.kind hk hc hcell fin) hd
    · exact wpAny_Name (wpAny_loadName_free I.ok.kind hk hc hcell fin hcd) hd
theorem pe_int {i j pos}:PE X (.Constant (.int i) j pos) (tC (.int i)):=fun _ _ _ H _ I h=>wpAny_Constant_int ⟨.int i,H,I.tok _,⟨_,rfl⟩,h⟩
theorem pe_bl {b j pos}:PE X (.Constant (.bool b) j pos) (tC (.bl b)):=fun _ _ _ H _ I h=>Constant_bool ⟨.bl b,H,I,rfl,h⟩
theorem pe_non {j pos}:PE X (.Constant .none j pos) (tC .non):=fun _ _ _ H _ I h=>Constant_none ⟨.non,H,I,rfl,h⟩
noncomputable def Gl (X:Cx) (x:Str):Prop:=X.env.kindOf x=some .globalImplicit
theorem ld_glob {E:Value→Shared→Prop} {pins:List (Addr×Obj)} {s:Shared} {σ:St} {H:Hp} {x:Str} {u:Value} {pos:Pos} {Q:Value→Shared→Prop} (I:Inv X pins σ H s) (hg:Gl X x) (hm:X.mg x=some u) (h:Q u s)
    (hd:(x==("__debug__":Str))=false:=by decide):wpAny (model X.prog X.w) X.A (eval (.Name x pos) X.env) Q E s :=
  Calls.Name_function_global I.ok.kind hg (Calls.loadGlobal_global (by rw [I.ok.glob];exact I.mod.glob.keeps I.bk) hm h) hd
theorem ld_blt {E:Value→Shared→Prop} {pins:List (Addr×Obj)} {s:Shared} {σ:St} {H:Hp} {x:Str} {u:Value} {pos:Pos} {Q:Value→Shared→Prop} (I:Inv X pins σ H s) (hg:Gl X x) (hm:X.mg x=none) (hv:bootBuiltins x=some u) (h:Q u s)
    (hn:x≠"__name__":=by decide) (hd:(x==("__debug__":Str))=false:=by decide):wpAny (model X.prog X.w) X.A (eval (.Name x pos) X.env) Q E s:=by
  obtain ⟨mb,h1,h2⟩:=I.mod.blt
  exact Calls.Name_function_global I.ok.kind hg (Calls.loadGlobal_builtin (by rw [I.ok.glob];exact I.mod.glob.keeps I.bk) hm (by rw [I.ok.blt];exact h1.keeps I.bk) ((h2 x hn).trans hv) h) hd
theorem pe_bltn {x:Str} {v:V} {u:Value} {pos:Pos} (hg:Gl X x) (hm:X.mg x=none) (hv:bootBuiltins x=some u) (r:RelV v u) (hn:x≠"__name__":=by decide) (hd:(x==("__debug__":Str))=false:=by decide):PE X (.Name x pos) (tC v) :=
  fun _ _ _ H _ I h=>ld_blt I hg hm hv ⟨v,H,I,r,h⟩ hn hd
noncomputable def t2I (ta tb:TE) (k:Int→Int→Hp→Prop):St→Hp→Prop:=fun σ H=>ta σ H fun x H1=>tb σ H1 fun y H2=>∃ i j,x=.int i∧y=.int j∧k i j H2
variable {a b:Expr} {ta tb:TE} {pos:Pos}
noncomputable def PC (X:Cx) (op:CmpOp) (a b:Expr) (t:TE):Prop :=
  ∀ (pins:List (Addr×Obj)) (s:Shared) (σ:St) (H:Hp) (Q:VK),Inv X pins σ H s→t σ H Q→
    wpAny (model X.prog X.w) X.A (eval a X.env) (fun v s₁=>wpAny (model X.prog X.w) X.A (eval b X.env) (fun u s₂=>wpAny (model X.prog X.w) X.A (compareOp op v u) (EP X pins σ Q) X.xe s₂) X.xe s₁) X.xe s
noncomputable def tCmp (p:Int→Int→Bool) (ta tb:TE):TE:=fun σ H Q=>t2I ta tb (fun i j H2=>Q (.bl (p i j)) H2) σ H
noncomputable abbrev tLt:TE→TE→TE:=tCmp fun i j=>decide (i<j)
noncomputable abbrev tLe:TE→TE→TE:=tCmp fun i j=>decide (i≤j)
noncomputable abbrev tGt:TE→TE→TE:=tCmp fun i j=>decide (j<i)
noncomputable abbrev tGe:TE→TE→TE:=tCmp fun i j=>decide (j≤i)
noncomputable abbrev tEqI:TE→TE→TE:=tCmp fun i j=>decide (i=j)
noncomputable abbrev tNeI:TE→TE→TE:=tCmp fun i j=>!decide (i=j)
noncomputable def tB (t:TE):TT:=fun σ H Q=>t σ H fun x H1=>∃ c,x=.bl c∧Q c H1
theorem pt_cmp {op:CmpOp} {t:TE} (h:PC X op a b t) (h1:behindInMarks op b=false:=by first | exact nobehind _ (by decide) (by decide) | rfl):PT X (.Compare a [op] [b] pos) (tB t):=by
  intro pins s σ H Q I hw
  refine wpAny_isTrue_Compare1 (thn (h pins s σ H _ I hw) fun v s1 h1=>thn h1 fun u s2 h2=>thn h2 fun c s3 ⟨x,H1,I1,r1,q1⟩=>?_) h1
  obtain ⟨d,rfl,q⟩:=q1
  cases r1
  exact wpAny_truthy_bool ⟨H1,I1,q⟩
theorem pt_val {e:Expr} {t:TE} (h:PE X e t) (he:∀ whole,isTrue e X.env whole=(do let v ← whole;standAt e.pos;holding [v] (truthy v)):=by intro _;rfl):PT X e (tB t):=by
  intro pins s σ H Q I hw
  refine isTrue_plain (thn (h pins s σ H _ I hw) fun v s1 ⟨x,H1,I1,r1,q1⟩=>?_) (he _)
  obtain ⟨d,rfl,q⟩:=q1
  cases r1
  exact wpAny_truthy_bool ⟨H1,I1,q⟩
variable {tA tB':TT} {rest:List Expr}
noncomputable def tAnd (t u:TT):TT:=fun σ H Q=>t σ H fun c H1=>if c=true then u σ H1 Q else Q false H1
noncomputable def tOr (t u:TT):TT:=fun σ H Q=>t σ H fun c H1=>if c=true then Q true H1 else u σ H1 Q
noncomputable def tNot (t:TT):TT:=fun σ H Q=>t σ H fun c H1=>Q (!c) H1
theorem pw_and1 (ha:PT X a tA):PW X (.BoolOp .And [a] pos) tA:=by
  intro wh pins s σ H Q I h
  refine isTrue_and (thn (ha pins s σ H Q I h) fun c s1 e=>?_)
  cases c with
  | true=>exact isTrue_and_nil e
  | false=>exact e
theorem pw_or1 (ha:PT X a tA):PW X (.BoolOp .Or [a] pos) tA:=by
  intro wh pins s σ H Q I h
  refine isTrue_or (thn (ha pins s σ H Q I h) fun c s1 e=>?_)
  cases c with
  | false=>exact isTrue_or_nil e
  | true=>exact e
theorem pw_and (ha:PT X a tA) (hb:PW X (.BoolOp .And (b::rest) pos) tB'):PW X (.BoolOp .And (a::b::rest) pos) (tAnd tA tB'):=by
  intro wh pins s σ H Q I h
  refine isTrue_and (thn (ha pins s σ H _ I h) fun c s1 ⟨H1,I1,q1⟩=>?_)
  cases c with
  | true=>exact hb wh pins s1 σ H1 Q I1 q1
  | false=>exact ⟨H1,I1,q1⟩
theorem pw_or (ha:PT X a tA) (hb:PW X (.BoolOp .Or (b::rest) pos) tB'):PW X (.BoolOp .Or (a::b::rest) pos) (tOr tA tB'):=by
  intro wh pins s σ H Q I h
  refine isTrue_or (thn (ha pins s σ H _ I h) fun c s1 ⟨H1,I1,q1⟩=>?_)
  cases c with
  | true=>exact ⟨H1,I1,q1⟩
  | false=>exact hb wh pins s1 σ H1 Q I1 q1
theorem pt_not (ha:PT X a tA):PT X (.UnaryOp .Not a pos) (tNot tA):=by
  intro pins s σ H Q I h
  exact isTrue_not (ha pins s σ H (fun c H1=>Q (!c) H1) I h)
noncomputable def tAndV (ta tb:TE):TE:=fun σ H Q=>ta σ H fun x H1=>∃ c,x=.bl c∧if c=true then tb σ H1 Q else Q (.bl false) H1
noncomputable def tNotV (ta:TE):TE:=fun σ H Q=>ta σ H fun x H1=>∃ c,x=.bl c∧Q (.bl (!c)) H1
theorem pe_one {op} {t:TE} (h:PE X a t):PE X (.BoolOp op [a] pos) t:=fun pins s σ H Q I hw=>BoolOp_one (h pins s σ H Q I hw)
theorem pe_and (ha:PE X a ta) (hb:PE X (.BoolOp .And (b::rest) pos) tb):PE X (.BoolOp .And (a::b::rest) pos) (tAndV ta tb):=by
  intro pins s σ H Q I h
  refine BoolOp_and (thn (ha pins s σ H _ I h) fun v s1 ⟨x,H1,I1,r1,q1⟩=>?_)
  obtain ⟨c,rfl,q1⟩:=q1
  cases r1
  refine wpAny_truthy_bool ?_
  cases c with
  | true=>exact hb pins s1 σ H1 Q I1 q1
  | false=>exact ⟨.bl false,H1,I1,rfl,q1⟩
theorem pe_not (ha:PE X a ta):PE X (.UnaryOp .Not a pos) (tNotV ta):=by
  intro pins s σ H Q I h
  refine UnaryOp_ (thn (ha pins s σ H _ I h) fun v s1 ⟨x,H1,I1,r1,q1⟩=>?_)
  obtain ⟨c,rfl,q1⟩:=q1
  cases r1
  exact not_of (wpAny_truthy_bool ⟨.bl (!c),H1,I1,rfl,q1⟩)
end
end L2
namespace L2
open PySem PySem.Spec PyProof.Rows
noncomputable def SqL (K:PySem.W.Frag) (H:Hp) (a:Addr) (xs:List V):Prop :=
  Rd H a (.lst xs)∨
    ∃ (o:Obj) (its:Array Value) (n:Nat),K.lookup a=some o∧o.cls=.type "list"∧o.dict=none∧o.data=.seq its n∧its.size≤sizeLine∧Vals xs its.toList
noncomputable def SqT (K:PySem.W.Frag) (H:Hp) (a:Addr) (xs:List V):Prop :=
  Rd H a (.tup xs)∨
    ∃ (o:Obj) (its:Array Value) (n:Nat),K.lookup a=some o∧o.cls=.type "tuple"∧o.data=.seq its n∧its.size≤sizeLine∧Vals xs its.toList
noncomputable def absV:Value→Option V
  | .none=>some .non
  | .bool b=>some (.bl b)
  | .int i _=>some (.int i)
  | .str x _=>some (.str x)
  | .bytes b _=>some (.byt b)
  | .float b _=>some (.flt b)
  | .ref a=>some (.ref a)
  | .type n=>some (.ty n)
  | _=>none
theorem RelV.abs {x:V} {u:Value} (r:RelV x u):absV u=some x:=by
  cases x with
  | non=>cases r;rfl
  | bl _=>cases r;rfl
  | int _=>obtain ⟨t,rfl⟩:=r;rfl
  | str _=>obtain ⟨t,rfl⟩:=r;rfl
  | byt _=>obtain ⟨t,rfl⟩:=r;rfl
  | flt _=>obtain ⟨t,rfl⟩:=r;rfl
  | ref _=>cases r;rfl
  | ty _=>cases r;rfl
theorem RelV.inj {x y:V} {u:Value} (r:RelV x u) (q:RelV y u):x=y:=Option.some.inj (r.abs.symm.trans q.abs)
theorem Vals.inj {xs ys:List V} {us:List Value} (a:Vals xs us) (b:Vals ys us):xs=ys:=by
  induction a generalizing ys with
  | nil=>cases b;rfl
  | cons r t ih =>
    cases b with
    | cons r' t'=>rw [r.inj r',ih t']
section
variable {X:Cx} {pins:List (Addr×Obj)} {σ:St} {H:Hp} {s:Shared} {a:Addr} {xs ys:List V}
theorem SqL.of {K:PySem.W.Frag} (h:H a=some (.lst xs)):SqL K H a xs:=.inl (.inl h)
theorem SqT.of {K:PySem.W.Frag} (h:H a=some (.tup xs)):SqT K H a xs:=.inl (.inl h)
theorem Inv.list (I:Inv X pins σ H s) (h:SqL X.K H a xs):∃ its:List Value,Vals xs its∧PlainL s.heap a its.toArray∧xs.length≤sizeLine:=by
  rcases h with h | ⟨o,its,n,hk,hc,hd,hs,hz,r⟩
  · obtain ⟨z,its,n,r,e⟩:=h.ok I.hok
    exact ⟨its,r,⟨_,n,e,rfl,rfl,rfl⟩,z⟩
  · refine ⟨its.toList,r,⟨o,n,I.kIn a o hk,hc,hd,by simpa using hs⟩,?_⟩
    have e:=r.length
    simp only [Array.length_toList] at e
    omega
theorem Inv.tuple (I:Inv X pins σ H s) (h:SqT X.K H a xs):∃ its:List Value,Vals xs its∧IsTup s.heap a its.toArray∧xs.length≤sizeLine:=by
  rcases h with h | ⟨o,its,n,hk,hc,hs,hz,r⟩
  · obtain ⟨z,its,r,p⟩:=h.ok I.hok
    exact ⟨its,r,p,z⟩
  · refine ⟨its.toList,r,⟨o,I.kIn a o hk,hc,n,by simpa using hs⟩,?_⟩
    have e:=r.length
    simp only [Array.length_toList] at e
    omega
theorem Inv.list_inj (I:Inv X pins σ H s) (h:SqL X.K H a xs) (h':SqL X.K H a ys):xs=ys:=by
  obtain ⟨its,r,⟨o,n,e,_,_,d⟩,_⟩:=I.list h
  obtain ⟨its',r',⟨o',n',e',_,_,d'⟩,_⟩:=I.list h'
  rw [e] at e';cases e'
  rw [d] at d'
  injection d' with d1 _
  have:its=its':=by simpa using congrArg Array.toList d1
  subst this
  exact r.inj r'
end
noncomputable abbrev Cx.wish (X:Cx) (E:Value→Shared→Prop):Cx:={X with xe:=E}
noncomputable abbrev Cx.nox (X:Cx):Cx:=X.wish fun _ _=>False
theorem Cx.Ok.wish {X:Cx} (ok:X.Ok) (E:Value→Shared→Prop):(X.wish E).Ok :=
  ⟨ok.mod,ok.kind,ok.glob,ok.blt,ok.above,ok.inj,ok.has,ok.cab,ok.hd,ok.frames,ok.stk,ok.exf,ok.bs,ok.bsz,ok.noex,ok.exfs,ok.funs,ok.frf⟩
theorem Cx.Ok.unwish {X:Cx} {E:Value→Shared→Prop} (ok:(X.wish E).Ok):X.Ok :=
  ⟨ok.mod,ok.kind,ok.glob,ok.blt,ok.above,ok.inj,ok.has,ok.cab,ok.hd,ok.frames,ok.stk,ok.exf,ok.bs,ok.bsz,ok.noex,ok.exfs,ok.funs,ok.frf⟩
section
variable {X:Cx} {pins:List (Addr×Obj)} {σ:St} {H:Hp} {s:Shared} {E:Value→Shared→Prop}
theorem Inv.wish (I:Inv X pins σ H s) (E:Value→Shared→Prop):Inv (X.wish E) pins σ H s:=⟨I.ok.wish E,I.os,I.bare,I.base,I.loc,I.cell,I.free,I.freeC,I.pin,I.hok,I.len⟩
theorem Inv.unwish (I:Inv (X.wish E) pins σ H s):Inv X pins σ H s:=⟨I.ok.unwish,I.os,I.bare,I.base,I.loc,I.cell,I.free,I.freeC,I.pin,I.hok,I.len⟩
theorem SP.unwish {D:Ends} {f:Flow} {s':Shared} (h:SP (X.wish E) pins D f s'):SP X pins D f s':=by
  cases f with
  | next=>obtain ⟨σ',H',I,q⟩:=h;exact ⟨σ',H',I.unwish,q⟩
  | brk=>obtain ⟨σ',H',I,q⟩:=h;exact ⟨σ',H',I.unwish,q⟩
  | cont=>obtain ⟨σ',H',I,q⟩:=h;exact ⟨σ',H',I.unwish,q⟩
  | ret u=>obtain ⟨v,σ',H',I,r,q⟩:=h;exact ⟨v,σ',H',I.unwish,r,q⟩
theorem PSs.nox {st:List Stmt} {t:TS} (h:PSs X.nox st t):PSs X st t:=fun pins s σ H D I hw =>
  wpAny_mono (h pins s σ H D (I.wish _) hw) (fun _ _ q=>q.unwish) fun _ _ z=>False.elim z
end
section
variable {X:Cx} {st:Stmt} {rest:List Stmt} {t u:TS} {e:Expr} {te:TE} {pos:Pos}
noncomputable def tNext:TS:=fun D σ H=>D.nx σ H
noncomputable def tSeq (t u:TS):TS:=fun D σ H=>t {D with nx:=u D} σ H
theorem pss_nil:PSs X [] tNext:=fun _ _ σ H _ I h=>wpAny_execs_nil ⟨σ,H,I,h⟩
theorem pss_cons (h1:PS X st t) (h2:PSs X rest u):PSs X (st::rest) (tSeq t u):=by
  intro pins s σ H D I h
  refine wpAny_execs_cons (thn (h1 pins s σ H {D with nx:=u D} I h) fun f s1 q=>?_)
  cases f with
  | next =>
    obtain ⟨σ',H',I',q⟩:=q
    exact h2 pins s1 σ' H' D I' q
  | ret v=>exact q
  | brk=>exact q
  | cont=>exact q
theorem pss_one (h1:PS X st t):PSs X [st] t:=by
  intro pins s σ H D I h
  refine wpAny_execs_cons (thn (h1 pins s σ H D I h) fun f s1 q=>?_)
  cases f with
  | next=>exact wpAny_execs_nil q
  | ret v=>exact q
  | brk=>exact q
  | cont=>exact q
theorem Inv.quiet {pins:List (Addr×Obj)} {σ:St} {H:Hp} {s:Shared} (I:Inv X pins σ H s):interactive X.env=false:=by simp [interactive,I.ok.kind]
noncomputable def tDrop (te:TE):TS:=fun D σ H=>te σ H fun _ H1=>D.nx σ H1
theorem ps_expr (he:PE X e te) (hs:swapsWith e none pos.line X.env=pure false:=by rfl):PS X (.Expr e pos) (tDrop te):=by
  intro pins s σ H D I h
  exact wpAny_Expr_any (thn (he pins s σ H _ I h) fun v s1 ⟨x,H1,I1,r1,q1⟩=>⟨σ,H1,I1,q1⟩) I.quiet hs
noncomputable def tRet (te:TE):TS:=fun D σ H=>te σ H D.rt
theorem ps_ret (he:PE X e te):PS X (.Return (some e) pos) (tRet te):=by
  intro pins s σ H D I h
  exact wpAny_Return_some (thn (he pins s σ H _ I h) fun v s1 ⟨x,H1,I1,r1,q1⟩=>⟨x,σ,H1,I1,r1,q1⟩)
noncomputable def tIfS (c:TT) (t u:TS):TS:=fun D σ H=>c σ H fun b H1=>if b=true then t D σ H1 else u D σ H1
theorem ps_if {c:Expr} {a b:List Stmt} {tc:TT} (hc:PT X c tc) (ha:PSs X a t) (hb:PSs X b u):PS X (.If c a b pos) (tIfS tc t u):=by
  intro pins s σ H D I h
  refine wpAny_If (thn (hc pins s σ H _ I h) fun d s1 ⟨H1,I1,q1⟩=>?_)
  cases d with
  | true=>exact ha pins s1 σ H1 D I1 q1
  | false=>exact hb pins s1 σ H1 D I1 q1
noncomputable def tNever:TS:=fun _ _ _=>False
theorem pss_never {sts:List Stmt}:PSs X sts tNever:=fun _ _ _ _ _ _ h=>h.elim
end
noncomputable abbrev TG:=V→St→Hp→(St→Hp→Prop)→Prop
noncomputable abbrev TGs:=List V→St→Hp→(St→Hp→Prop)→Prop
noncomputable def PG (X:Cx) (target:Expr) (t:TG):Prop :=
  ∀ (pins:List (Addr×Obj)) (s:Shared) (σ:St) (H:Hp) (v:V) (u:Value) (Q:St→Hp→Prop),Inv X pins σ H s→RelV v u→t v σ H Q→
    wpAny (model X.prog X.w) X.A (assign target X.env u) (fun _ s'=>∃ σ' H',Inv X pins σ' H' s'∧Q σ' H') X.xe s
noncomputable def PGs (X:Cx) (ts:List Expr) (t:TGs):Prop :=
  ∀ (pins:List (Addr×Obj)) (s:Shared) (σ:St) (H:Hp) (vs:List V) (us:List Value) (Q:St→Hp→Prop),Inv X pins σ H s→Vals vs us→t vs σ H Q→
    wpAny (model X.prog X.w) X.A (assignInOrder ((assignEach ts X.env).map (·.2)) us) (fun _ s'=>∃ σ' H',Inv X pins σ' H' s'∧Q σ' H') X.xe s
noncomputable abbrev TSet:=V→V→V→Hp→(Hp→Prop)→Prop
noncomputable def PSet (X:Cx) (t:TSet):Prop :=
  ∀ (pins:List (Addr×Obj)) (s:Shared) (σ:St) (H:Hp) (o i v:V) (ov iv u:Value) (Q:Hp→Prop),Inv X pins σ H s→RelV o ov→RelV i iv→RelV v u→t o i v H Q→
    wpAny (model X.prog X.w) X.A (setItem ov iv u) (fun _ s'=>∃ H',Inv X pins σ H' s'∧Q H') X.xe s
noncomputable abbrev TIp:=V→V→Hp→VK→Prop
noncomputable def PIp (X:Cx) (op:Operator) (t:TIp):Prop :=
  ∀ (pins:List (Addr×Obj)) (s:Shared) (σ:St) (H:Hp) (x y:V) (v u:Value) (Q:VK),Inv X pins σ H s→RelV x v→RelV y u→t x y H Q→
    wpAny (model X.prog X.w) X.A (inplaceOp op v u) (EP X pins σ Q) X.xe s
section
variable {X:Cx} {pos:Pos}
noncomputable def gName (i:Nat):TG:=fun v σ H Q=>Q (σ.set i (some v)) H
theorem pg_name {i:Nat} {x:Str} (hN:X.N.Nodup) (hi:X.N[i]?=some x) (hx:Loc X.env.scope x) (hf:X.fn x=true∨X.env.scope.names.lookup x=some .local:=by first | exact .inl rfl | exact .inr rfl | assumption):PG X (.Name x pos) (gName i):=by
  intro pins s σ H v u Q I r h
  exact wpAny_assign_Name (store_ok I hN hi hx r (fun s' I'=>⟨_,H,I',h⟩) hf)
noncomputable def gNil:TGs:=fun vs σ H Q=>vs=[]∧Q σ H
noncomputable def gCons (t:TG) (u:TGs):TGs:=fun vs σ H Q=>∃ v r,vs=v::r∧t v σ H fun σ' H'=>u r σ' H' Q
theorem pgs_nil:PGs X [] gNil:=by
  intro pins s σ H vs us Q I r h
  obtain ⟨e,h⟩:=h
  subst e
  cases r
  exact assignInOrder_nil ⟨σ,H,I,h⟩
theorem pgs_cons {e:Expr} {es:List Expr} {t:TG} {u:TGs} (h1:PG X e t) (h2:PGs X es u)
    (hs:(assignEach (e::es) X.env).map (·.2)=assign e X.env::(assignEach es X.env).map (·.2):=by rfl):PGs X (e::es) (gCons t u):=by
  intro pins s σ H vs us Q I r h
  obtain ⟨v,vr,e1,h⟩:=h
  subst e1
  cases r with
  | cons r rr =>
    rw [hs]
    refine assignInOrder_cons (thn (h1 pins s σ H _ _ _ I r h) fun _ s1 ⟨σ1,H1,I1,q1⟩=>?_)
    exact h2 pins s1 σ1 H1 _ _ Q I1 rr q1
noncomputable def gTup (K:PySem.W.Frag) (n:Nat) (t:TGs):TG:=fun v σ H Q=>∃ a xs,v=.ref a∧SqT K H a xs∧xs.length=n∧t xs σ H Q
theorem pg_tup {es:List Expr} {k:Nat} {t:TGs} {n:Nat} (hc:X.calm=true) (h:PGs X es t)
    (hn:(assignEach es X.env).length=n:=by rfl) (hst:(assignEach es X.env).findIdx? (·.1)=none:=by rfl):PG X (.Tuple es k pos) (gTup X.K n t):=by
  intro pins s σ H v u Q I r hw
  obtain ⟨a,xs,e1,hq,hl,hw⟩:=hw
  subst e1
  cases r
  obtain ⟨its,rv,ht,hz⟩:=I.tuple hq
  refine assign_Tuple_tuple (I.ok.hd hc) ht (by simp [hn,← hl,rv.length]) hst fun h' hx=>?_
  have I1:Inv X pins σ H {s with heap:=h'}:=I.kept (t':=s.toks) fun b o e=>hx b o (Nat.ne_of_lt (Heap.lt_size e)) e
  exact h pins _ σ H xs _ Q I1 (by simpa using rv) hw
noncomputable def gSub (to ti:TE) (t:TSet):TG:=fun v σ H Q=>to σ H fun o H1=>ti σ H1 fun i H2=>t o i v H2 fun H3=>Q σ H3
theorem pg_sub {o i:Expr} {to ti:TE} {t:TSet} (ho:PE X o to) (hi:PE X i ti) (hs:PSet X t)
    (ha:∀ v,assign (.Subscript o i pos) X.env v=(do
      let ov ← holding [v] (eval o X.env)
      let iv ← holding [v,ov] (eval i X.env)
      standAt pos
      holding [v,ov,iv] (setItem ov iv v)
      release [v,ov,iv] []):=by intro _;rfl):PG X (.Subscript o i pos) (gSub to ti t):=by
  intro pins s σ H v u Q I r h
  rw [ha]
  refine wpAny_bind (wpAny_holding (thn (ho pins s σ H _ I h) fun ov s1 ⟨x,H1,I1,r1,q1⟩=>?_))
  refine wpAny_bind (wpAny_holding (thn (hi pins s1 σ H1 _ I1 q1) fun iv s2 ⟨y,H2,I2,r2,q2⟩=>?_))
  refine wpAny_bind (wpAny_standAt (wpAny_bind (wpAny_holding (thn (hs pins s2 σ H2 x y v ov iv u _ I2 r1 r2 r q2) fun _ s3 ⟨H3,I3,q3⟩=>?_))))
  exact wpAny_release ⟨σ,H3,I3,q3⟩
noncomputable def tAsg (te:TE) (g:TG):TS:=fun D σ H=>te σ H fun x H1=>g x σ H1 D.nx
theorem ps_asg {tg e:Expr} {te:TE} {g:TG} (he:PE X e te) (hg:PG X tg g) (hs:swapsWithSole [tg] e pos.line X.env=pure false:=by rfl) (hw:swappedStores [tg] e X.env=pure none:=by rfl)
    (h1:(assignEach [tg] X.env).map (·.2)=[assign tg X.env]:=by rfl):PS X (.Assign [tg] e pos) (tAsg te g):=by
  intro pins s σ H D I h
  refine wpAny_Assign_stores (thn (he pins s σ H _ I h) fun v s1 ⟨x,H1,I1,r1,q1⟩=>?_) hs hw
  rw [h1]
  exact thn (hg pins s1 σ H1 x v _ I1 r1 q1) fun _ s2 q=>q
theorem ps_set {i:Nat} {x:Str} {e:Expr} {te:TE} {pos':Pos} (hN:X.N.Nodup) (hi:X.N[i]?=some x) (hx:Loc X.env.scope x) (he:PE X e te) (hs:swapsWith e (some (.Name x pos')) pos.line X.env=pure false:=by rfl) (hf:X.fn x=true∨X.env.scope.names.lookup x=some .local:=by first | exact .inl rfl | exact .inr rfl | assumption) :
    PS X (.Assign [.Name x pos'] e pos) (tAsg te (gName i)):=by
  intro pins s σ H D I h
  refine wpAny_Assign_Name (thn (he pins s σ H _ I h) fun v s1 ⟨y,H1,I1,r1,q1⟩=>?_) hs
  exact store_ok I1 hN hi hx r1 (fun s2 I2=>⟨_,H1,I2,q1⟩) hf
noncomputable def tAug (i:Nat) (te:TE) (ti:TIp):TS:=fun D σ H=>∃ x,σ[i]?=some (some x)∧te σ H fun y H1=>ti x y H1 fun z H2=>D.nx (σ.set i (some z)) H2
theorem ps_aug {i:Nat} {x:Str} {e:Expr} {te:TE} {op:Operator} {ti:TIp} {pos':Pos} (hN:X.N.Nodup) (hi:X.N[i]?=some x) (hx:Loc X.env.scope x) (he:PE X e te) (ho:PIp X op ti) (hf:X.fn x=true∨X.env.scope.names.lookup x=some .local:=by first | exact .inl rfl | exact .inr rfl | assumption) :
    PS X (.AugAssign (.Name x pos') op e pos) (tAug i te ti):=by
  intro pins s σ H D I h
  obtain ⟨v,e1,h⟩:=h
  obtain ⟨m,hn,hl⟩:=I.loc
  have vis:Vis X.env.scope x:=by rcases hx with k | k;exact .inl k;exact .inr (.inl k)
  obtain ⟨u,r,l⟩:=hl i x v hi e1 vis
  refine wpAny_AugAssign_Name ?_
  have go:wpAny (model X.prog X.w) X.A (eval e X.env) (fun w s₂=>wpAny (model X.prog X.w) X.A (inplaceOp op u w) (fun r s₃=>wpAny (model X.prog X.w) X.A (storeName X.env x r) (fun _=>SP X pins D .next) X.xe s₃) X.xe s₂) X.xe s:=by
    refine thn (he pins s σ H _ I h) fun w s1 ⟨y,H1,I1,r1,q1⟩=>?_
    refine thn (ho pins s1 σ H1 v y u w _ I1 r r1 q1) fun z s2 ⟨zv,H2,I2,r2,q2⟩=>?_
    exact store_ok I2 hN hi hx r2 (fun s3 I3=>⟨_,H2,I3,q2⟩) hf
  rcases l with ⟨hk,hm⟩ | ⟨hk,c,hc,hcell⟩
  · exact wpAny_loadName_local I.ok.kind hk hn hm go
  · rcases hk with hk | hk
    · exact wpAny_loadName_cell I.ok.kind hk hc hcell go
    · rcases hx with k | k
      · have:X.env.scope.names.lookup x=some .free:=hk
        rw [k] at this;cases this
      · have:X.env.scope.names.lookup x=some .free:=hk
        rw [k] at this;cases this
noncomputable def ipI (f:Int→Int→Int):TIp:=fun x y H Q=>∃ i j,x=.int i∧y=.int j∧Q (.int (f i j)) H
theorem ip_add:PIp X .Add (ipI fun i j=>i+j):=by
  intro pins s σ H x y v u Q I r1 r2 h
  obtain ⟨i,j,e1,e2,q⟩:=h
  subst e1;subst e2
  obtain ⟨t,rfl⟩:=r1
  obtain ⟨t',rfl⟩:=r2
  exact iadd_int ⟨.int _,H,I.tok _,⟨_,rfl⟩,q⟩
end
section
variable {X:Cx} {pos:Pos}
noncomputable def tWhile (c:TT) (tb:TS):TS:=fun D σ H=>∃ W:Nat→St→Hp→Prop,(∃ m,W m σ H)∧∀ m σ H,W m σ H→
  c σ H fun b H1=>if b=true then ∃ N:St→Hp→Prop,(∀ σ' H',N σ' H'→∃ m',m'<m∧W m' σ' H')∧tb {D with nx:=N,ct:=N,bk:=D.nx} σ H1 else D.nx σ H1
theorem ps_while {c:Expr} {body:List Stmt} {tc:TT} {tb:TS} (hp:PassesOwn (model X.prog X.w) X.A X.env X.xe) (hc:PT X c tc) (hb:PSs X body tb):PS X (.While c body [] pos) (tWhile tc tb):=by
  intro pins s σ H D I h
  obtain ⟨W,⟨m0,w0⟩,turn⟩:=h
  refine wpAny_While (codeAny_whileLoop (fun n s'=>∃ σ' H',Inv X pins σ' H' s'∧W n σ' H') ?_ m0 ⟨σ,H,I,w0⟩)
  rintro n s1 ⟨σ1,H1,I1,w1⟩
  refine wpAny_passesOwn hp (thn (hc pins s1 σ1 H1 _ I1 (turn n σ1 H1 w1)) fun b s2 ⟨H2,I2,q2⟩=>?_)
  cases b with
  | true =>
    obtain ⟨N,hN,q2⟩:=q2
    rw [if_pos rfl]
    refine wpAny_passesOwn hp (thn (hb pins s2 σ1 H2 _ I2 q2) fun f s3 q3=>?_)
    cases f with
    | next =>
      obtain ⟨σ3,H3,I3,n3⟩:=q3
      obtain ⟨m',hm,w3⟩:=hN σ3 H3 n3
      exact ⟨m',hm,σ3,H3,I3,w3⟩
    | cont =>
      obtain ⟨σ3,H3,I3,n3⟩:=q3
      obtain ⟨m',hm,w3⟩:=hN σ3 H3 n3
      exact ⟨m',hm,σ3,H3,I3,w3⟩
    | brk=>exact q3
    | ret v=>exact q3
  | false =>
    rw [if_neg Bool.false_ne_true]
    exact wpAny_execs_nil ⟨σ1,H2,I2,q2⟩
end
structure It where
  go:Nat→Hp→Prop
  yld:Nat→Hp→V→Hp→Prop
  stop:Nat→Hp→Prop
noncomputable def FpOk (X:Cx) (pins:List (Addr×Obj)) (H:Hp) (b:Addr):Prop :=
  H b=none∧b≠X.env.locals∧b∉X.fs∧(b∈X.ex∨X.s₀.heap.objs.size≤b)∧(∀ x c,X.env.cells.lookup x=some c→c≠b)∧∀ p∈X.pn++pins,p.1≠b
theorem Inv.fpOk {X:Cx} {pins:List (Addr×Obj)} {σ:St} {H H':Hp} {s:Shared} {b:Addr} (I:Inv X pins σ H s) (hb:s.heap.objs.size≤b) (hn:H' b=none):FpOk X pins H' b:=by
  refine ⟨hn,Nat.ne_of_gt (Nat.lt_of_lt_of_le I.lt hb),I.nofs hb,.inr (Nat.le_trans I.sz hb),fun x c e z=>?_,fun p hp z=>?_⟩
  · obtain ⟨v,q⟩:=I.cell x c e
    exact absurd (Nat.lt_of_lt_of_le q.lt (by rw [z];exact hb)) (Nat.lt_irrefl _)
  · exact absurd (Nat.lt_of_lt_of_le (Heap.lt_size (I.pin p hp).1) (by rw [z];exact hb)) (Nat.lt_irrefl _)
structure Turn (P:Program) (w:World) (K:PySem.W.Frag) (tg:Expr) (J:It) (fp:List Addr) (it:Addr) (tn:Nat→Heap→Prop):Prop where
  mem:it∈fp
  obj:∀ i h,tn i h→∀ b∈fp,∃ o,h.get? b=some o∧∀ v,o.data≠.cell v
  keep:∀ i h h',tn i h→(∀ b∈fp,∀ o,h.get? b=some o→h'.get? b=some o)→tn i h'
  item:∀ (X:Cx),X.prog=P→X.w=w→X.K=K→X.calm=true→∀ (i:Nat) (pins:List (Addr×Obj)) (s:Shared) (σ:St) (H:Hp) (E:Value→Shared→Prop),Inv X pins σ H s→(∀ b∈fp,FpOk X pins H b)→tn i s.heap→J.go i H→
    wpAny (model P w) X.A (pyNext (.ref it)) (fun r s1=>∃ u,r=some u∧
      wpAny (model P w) X.A (letOwnedTupleGo tg (.ref it) u) (fun _ s2=>∃ x H',Inv X pins σ H' s2∧RelV x u∧J.yld i H x H'∧tn (i+1) s2.heap∧∀ b∈fp,H' b=none) E s1) E s
  done:∀ (X:Cx),X.prog=P→X.w=w→X.K=K→X.calm=true→∀ (i:Nat) (pins:List (Addr×Obj)) (s:Shared) (σ:St) (H:Hp) (E:Value→Shared→Prop),Inv X pins σ H s→(∀ b∈fp,FpOk X pins H b)→tn i s.heap→J.stop i H→
    wpAny (model P w) X.A (pyNext (.ref it)) (fun r s1=>r=none∧Inv X pins σ H s1) E s
  self:∀ (A:Around) (i:Nat) (s:Shared) (Q:Value→Shared→Prop) (E:Value→Shared→Prop),tn i s.heap→Q (.ref it) s→wpAny (model P w) A (pyIter (.ref it)) Q E s
noncomputable abbrev TI:=St→Hp→(It→Hp→Prop)→Prop
noncomputable def PIE (X:Cx) (pins:List (Addr×Obj)) (σ:St) (tg:Expr) (R:It→Hp→Prop) (itv:Value) (s2:Shared):Prop :=
  ∃ (it:Addr) (fp:List Addr) (tn:Nat→Heap→Prop) (J:It) (H':Hp),itv=.ref it∧Inv X pins σ H' s2∧Turn X.prog X.w X.K tg J fp it tn∧tn 0 s2.heap∧(∀ b∈fp,FpOk X pins H' b)∧R J H'
noncomputable def PI (X:Cx) (tg iter:Expr) (wi:TI):Prop :=
  ∀ (pins:List (Addr×Obj)) (s:Shared) (σ:St) (H:Hp) (R:It→Hp→Prop),Inv X pins σ H s→wi σ H R→
    wpAny (model X.prog X.w) X.A (eval iter X.env) (fun v s1=>wpAny (model X.prog X.w) X.A (pyIter v) (PIE X pins σ tg R) X.xe s1) X.xe s
theorem go_of {M:Model} {A:Around} {E:Value→Shared→Prop} {s:Shared} {tg:Expr} {it:Addr} {u:Value} {o:Obj} {n:String} {vs:Array Value} {Q:Unit→Shared→Prop} (ho:s.heap.get? it=some o) (hc:o.cls=.type n) (hd:o.data=.fields vs)
    (hn:["enumerate","zip","dict_itemiterator","dict_reverseitemiterator","odict_iterator","itertools.zip_longest","itertools.pairwise"].contains n=false) (hQ:Q () s):wpAny M A (letOwnedTupleGo tg (.ref it) u) Q E s:=by
  unfold letOwnedTupleGo
  cases tg <;> first
    | exact wpAny_pure hQ
    | (cases u <;> first
        | exact wpAny_pure hQ
        | (refine wpAny_bind (wpAny_load ho ?_)
           rw [hc,hd]
           show wpAny M A (if (["enumerate","zip","dict_itemiterator","dict_reverseitemiterator","odict_iterator","itertools.zip_longest","itertools.pairwise"].contains n&&vs[0]?==some (rawInt _))=true then _ else _) Q E s
           rw [if_neg (by intro h;rw [hn,Bool.false_and] at h;cases h)]
           exact wpAny_pure hQ))
noncomputable def Itl (K:PySem.W.Frag) (a:Addr):It :=
  ⟨fun i H=>∃ xs x,SqL K H a xs∧xs[i]?=some x,fun i H x H'=>H'=H∧∀ xs,SqL K H a xs→xs[i]?=some x,fun i H=>∃ xs,SqL K H a xs∧xs.length≤i⟩
noncomputable def Itr (lo:Int) (n:Nat):It:=⟨fun i _=>i<n,fun i H x H'=>H'=H∧x=.int (lo+i),fun i _=>n≤i⟩
theorem turn_list {P:Program} {w:World} {K:PySem.W.Frag} {tg:Expr} (a it:Addr):Turn P w K tg (Itl K a) [it] it (fun i h=>h.IsListIter it a i) where
  mem:=by simp
  obj:=fun i h st b hb=>by
    have e:b=it:=by simpa using hb
    subst e
    obtain ⟨o,e,c,d⟩:=st
    exact ⟨o,e,fun v z=>by rw [d] at z;cases z⟩
  keep:=fun i h h' st k=>st.at fun o e=>k it (by simp) o e
  item:=by
    intro X hP hw hK hc i pins s σ H E I hf st hg
    subst hP hw hK
    obtain ⟨xs,x,hq,hx⟩:=hg
    obtain ⟨its,rv,p,hz⟩:=I.list hq
    obtain ⟨u,hu,ru⟩:=rv.get hx
    obtain ⟨f0,f1,f2,f3,f4,f5⟩:=hf it (by simp)
    refine wpAny_pyNext_list_item st p.isList (x:=u) (by simpa using hu) fun h' st' sb=>?_
    have I1:Inv X pins σ H {s with heap:=h'}:=I.turned (t':=s.toks) (fun b o hb e=>(sb.2 b hb).trans e) f0 f1 f3 f4 f5
    obtain ⟨o,e,c,d⟩:=id st'
    exact ⟨u,rfl,go_of (s:={s with heap:=h'}) e c d (by decide) ⟨x,H,I1,ru,⟨rfl,fun ys hy=>by rw [I.list_inj hy hq];exact hx⟩,st',fun b hb=>(hf b hb).1⟩⟩
  done:=by
    intro X hP hw hK hc i pins s σ H E I hf st hg
    subst hP hw hK
    obtain ⟨xs,hq,hx⟩:=hg
    obtain ⟨its,rv,p,hz⟩:=I.list hq
    obtain ⟨f0,f1,f2,f3,f4,f5⟩:=hf it (by simp)
    have hl:=rv.length
    exact wpAny_pyNext_list_end (I.ok.hd hc) st p.isList (by simp;omega) fun h' eb=>⟨rfl,I.turned (t':=s.toks) (fun b o hb e=>eb b o hb e) f0 f1 f3 f4 f5⟩
  self:=fun _ _ _ _ _ st h=>wpAny_pyIter_listiter st h
theorem turn_range {P:Program} {w:World} {K:PySem.W.Frag} {tg:Expr} (it:Addr) (lo:Int) (n:Nat):Turn P w K tg (Itr lo n) [it] it (fun i h=>IsRangeIter h it (lo+(i:Nat)*1) ((n:Int) - (i:Nat)) 1) where
  mem:=by simp
  obj:=fun i h st b hb=>by
    have e:b=it:=by simpa using hb
    subst e
    exact ⟨_,st,fun v z=>by
      have z':Data.fields _=Data.cell v:=z
      cases z'⟩
  keep:=fun i h h' st k=>k it (by simp) _ st
  item:=by
    intro X hP hw hK hc i pins s σ H E I hf st hg
    subst hP hw hK
    obtain ⟨f0,f1,f2,f3,f4,f5⟩:=hf it (by simp)
    have W:=Walks.range (prog:=X.prog) (w:=X.w) (I.ok.hd hc) it lo 1 n
    refine W.item i s _ _ hg st fun v h' tk hv st' kk=>?_
    obtain ⟨t,rfl⟩:=hv
    have I1:Inv X pins σ H {s with heap:=h',toks:=tk}:=I.turned (fun b o hb e=>kk b o (by simpa using hb) e) f0 f1 f3 f4 f5
    refine ⟨_,rfl,go_of (s:={s with heap:=h',toks:=tk}) (n:="range_iterator") st' rfl rfl (by decide) ⟨.int (lo+i),H,I1,⟨t,?_⟩,⟨rfl,rfl⟩,st',fun b hb=>(hf b hb).1⟩⟩
    rw [Int.mul_one]
  done:=by
    intro X hP hw hK hc i pins s σ H E I hf st hg
    subst hP hw hK
    obtain ⟨f0,f1,f2,f3,f4,f5⟩:=hf it (by simp)
    exact wpAny_pyNext_range_end (I.ok.hd hc) st (by have:n≤i:=hg;omega) fun h' eb=>⟨rfl,I.turned (t':=s.toks) (fun b o hb e=>eb b o hb e) f0 f1 f3 f4 f5⟩
  self:=fun _ _ _ _ _ st h=>wpAny_pyIter_rangeiter st h
end L2
namespace L2
open PySem PySem.Spec PyProof.Rows
section
variable {X:Cx} {tg:Expr}
noncomputable def iList (K:PySem.W.Frag) (tl:TE):TI:=fun σ H R=>tl σ H fun x H1=>∃ a,x=.ref a∧(∃ xs,SqL K H1 a xs)∧R (Itl K a) H1
theorem pi_list {l:Expr} {tl:TE} (hl:PE X l tl):PI X tg l (iList X.K tl):=by
  intro pins s σ H R I h
  refine thn (hl pins s σ H _ I h) fun v s1 ⟨x,H1,I1,r1,q1⟩=>?_
  obtain ⟨a,e,⟨xs,hq⟩,q⟩:=q1
  subst e
  cases r1
  obtain ⟨its,rv,p,hz⟩:=I1.list hq
  refine wpAny_pyIter_list p.isList ?_
  refine ⟨s1.heap.objs.size,[s1.heap.objs.size],_,_,H1,rfl,I1.kept (t':=s1.toks) fun b o e=>Heap.get?_push_of_some _ e,turn_list a _,⟨_,Heap.get?_push_size _ rfl,rfl,rfl⟩,fun b hb=>?_,q⟩
  have e:b=s1.heap.objs.size:=by simpa using hb
  subst e
  exact I1.fpOk (Nat.le_refl _) (I1.hok.fresh (Nat.le_refl _))
theorem range_it {pins:List (Addr×Obj)} {σ:St} {H:Hp} {s:Shared} {R:It→Hp→Prop} {E:Value→Shared→Prop} {lo hi:Int} {t u v:Tok} {tk:Nat} (I:Inv X pins σ H s) (h1 : -(2 ^ 62)≤lo) (h2:lo<2 ^ 62) (h3 : -(2 ^ 62)≤hi) (h4:hi<2 ^ 62)
    (q:R (Itr lo (hi - lo).toNat) H):wpAny (model X.prog X.w) X.A (pyIter (.ref s.heap.objs.size)) (PIE X pins σ tg R) E {s with heap:=s.heap.push {cls:=.type "range",data:=.fields #[.int lo t,.int hi u,.int 1 v]},toks:=tk}:=by
  refine wpAny_pyIter_range (IsRange.new ..) (small_one h1 h2 h3 h4) ?_
  have I1:Inv X pins σ H {s with heap:=s.heap.push {cls:=.type "range",data:=.fields #[.int lo t,.int hi u,.int 1 v]},toks:=tk}:=I.kept fun b o e=>Heap.get?_push_of_some _ e
  refine ⟨(s.heap.push {cls:=.type "range",data:=.fields #[.int lo t,.int hi u,.int 1 v]}).objs.size,[(s.heap.push {cls:=.type "range",data:=.fields #[.int lo t,.int hi u,.int 1 v]}).objs.size],_,_,H,rfl,
    I1.kept (t':=tk) fun b o e=>Heap.get?_push_of_some _ e,turn_range _ lo (hi - lo).toNat,?_,fun b hb=>?_,q⟩
  · have e1:lo+((0:Nat):Int)*1=lo:=by simp
    have e2:(((hi - lo).toNat:Nat):Int) - ((0:Nat):Int)=Builtin.Range.rangeSize lo hi 1:=by rw [rangeSize_one];split <;> omega
    show IsRangeIter _ _ (lo+((0:Nat):Int)*1) ((((hi - lo).toNat:Nat):Int) - ((0:Nat):Int)) 1
    rw [e1,e2]
    exact Heap.get?_push_size _ rfl
  · have e:b=(s.heap.push {cls:=.type "range",data:=.fields #[.int lo t,.int hi u,.int 1 v]}).objs.size:=by simpa using hb
    subst e
    exact I1.fpOk (Nat.le_refl _) (I1.hok.fresh (Nat.le_refl _))
noncomputable def iRng1 (ta:TA):TI:=fun σ H R=>ta σ H fun vs H1=>∃ j:Int,vs=[.int j]∧-(2 ^ 62)≤j∧j<2 ^ 62∧R (Itr 0 j.toNat) H1
noncomputable def iRng2 (ta:TA):TI:=fun σ H R=>ta σ H fun vs H1=>∃ i j:Int,vs=[.int i,.int j]∧(-(2 ^ 62)≤i∧i<2 ^ 62∧-(2 ^ 62)≤j∧j<2 ^ 62)∧R (Itr i (j - i).toNat) H1
theorem pi_range1 {a:Expr} {ta:TA} {p pos:Pos} (hg:Gl X "range") (hm:X.mg "range"=none) (ha:PA X [a] ta) (hs:starEach [a] X.env=[(false,eval a X.env)]:=by rfl):PI X tg (.Call (.Name "range" p) [a] [] pos) (iRng1 ta):=by
  intro pins s σ H R I h
  refine Call_ (ld_blt I hg hm boot_range (PyProof.Rows.callWith_type1 (thn (ha pos pins s σ H _ I h) fun us s1 ⟨vs,H1,I1,r1,q1⟩=>?_) hs rfl))
  obtain ⟨j,e,q1,q2,q⟩:=q1
  subst e
  cases r1 with
  | cons r rr =>
    cases rr
    obtain ⟨t,rfl⟩:=r
    exact call_range_1 (range_it I1 (by omega) (by omega) q1 q2 (by simpa using q))
theorem pi_range2 {a b:Expr} {ta:TA} {p pos:Pos} (hg:Gl X "range") (hm:X.mg "range"=none) (ha:PA X [a,b] ta) (hs:starEach [a,b] X.env=[(false,eval a X.env),(false,eval b X.env)]:=by rfl) (hs2:starEach [b] X.env=[(false,eval b X.env)]:=by rfl) :
    PI X tg (.Call (.Name "range" p) [a,b] [] pos) (iRng2 ta):=by
  intro pins s σ H R I h
  refine Call_ (ld_blt I hg hm boot_range (PyProof.Rows.callWith_type1 (thn (ha pos pins s σ H _ I h) fun us s1 ⟨vs,H1,I1,r1,q1⟩=>?_) (by rw [hs,hs2]) (by rw [hs2];rfl)))
  obtain ⟨i,j,e,⟨q1,q2,q3,q4⟩,q⟩:=q1
  subst e
  cases r1 with
  | cons r rr =>
    cases rr with
    | cons r' rr =>
      cases rr
      obtain ⟨t,rfl⟩:=r
      obtain ⟨t',rfl⟩:=r'
      exact call_range_2 (range_it I1 q1 q2 q3 q4 q)
noncomputable def tFor (wi:TI) (g:TG) (tb:TS):TS:=fun D σ H=>wi σ H fun J H1=>∃ W:Nat→Nat→St→Hp→Prop,(∃ m,W 0 m σ H1)∧∀ i m σ H,W i m σ H→
  (J.stop i H∧D.nx σ H)∨(J.go i H∧∃ N:St→Hp→Prop,(∀ σ' H',N σ' H'→∃ m',m'<m∧W (i+1) m' σ' H')∧∀ x H',J.yld i H x H'→g x σ H' fun σ2 H2=>tb {D with nx:=N,ct:=N,bk:=D.nx} σ2 H2)
noncomputable def pinsAt (fp:List Addr) (h:Heap):List (Addr×Obj):=fp.filterMap fun b=>(h.get? b).map fun o=>(b,o)
theorem mem_pinsAt {fp:List Addr} {h:Heap} {b:Addr} {o:Obj} (hb:b∈fp) (e:h.get? b=some o):(b,o)∈pinsAt fp h:=List.mem_filterMap.mpr ⟨b,hb,by rw [e];rfl⟩
theorem of_pinsAt {fp:List Addr} {h:Heap} {p:Addr×Obj} (hp:p∈pinsAt fp h):p.1∈fp∧h.get? p.1=some p.2:=by
  obtain ⟨b,hb,e⟩:=List.mem_filterMap.mp hp
  cases q:h.get? b with
  | none=>rw [q] at e;cases e
  | some o =>
    rw [q] at e
    have e':(b,o)=p:=Option.some.inj e
    subst e'
    exact ⟨hb,q⟩
theorem Inv.pinned {pins:List (Addr×Obj)} {σ:St} {H:Hp} {s:Shared} {fp:List Addr} (I:Inv X pins σ H s) (hf:∀ b∈fp,FpOk X pins H b) (ho:∀ b∈fp,∃ o,s.heap.get? b=some o∧∀ v,o.data≠.cell v):Inv X (pins++pinsAt fp s.heap) σ H s :=
  I.pins_of fun p hp=>(List.mem_append.mp hp).elim (fun z=>I.pin p (List.mem_append_right _ z)) fun z=>by
    obtain ⟨hb,e⟩:=of_pinsAt z
    obtain ⟨f0,f1,f2,_⟩:=hf p.1 hb
    obtain ⟨o,e',d⟩:=ho p.1 hb
    rw [e] at e';cases e'
    exact ⟨e,f0,f1,f2,d⟩
theorem Inv.unpinned {pins pl:List (Addr×Obj)} {σ:St} {H:Hp} {s:Shared} (I:Inv X (pins++pl) σ H s):Inv X pins σ H s:=I.pins_of fun p hp=>I.pin p (List.mem_append_right _ (List.mem_append_left _ hp))
theorem ps_for {iter:Expr} {body:List Stmt} {wi:TI} {g:TG} {tb:TS} {pos:Pos} (hp:PassesOwn (model X.prog X.w) X.A X.env X.xe) (hc:X.calm=true) (hi:PI X tg iter wi) (hg:PG X tg g) (hb:PSs X body tb)
    (hs:∀ x,foldedSetIterable iter X.env x=pure x:=by intro _;rfl):PS X (.For tg iter body [] pos) (tFor wi g tb):=by
  intro pins s σ H D I h
  refine wpAny_For (thn (hi pins s σ H _ I h) fun v s1 h1=>thn h1 fun itv s2 h2=>?_) hs
  obtain ⟨it,fp,tn,J,H2,e,I2,T,st2,f2,W,⟨m0,w0⟩,turn⟩:=h2
  subst e
  -- what stays true of the iterator's objects through the loop
  have stat:∀ {H':Hp},(∀ b∈fp,H' b=none)→∀ b∈fp,FpOk X pins H' b:=fun hn b hb=>⟨hn b hb,(f2 b hb).2⟩
  refine codeAny_forLoop_any (fun n s'=>∃ i σ' H',Inv X pins σ' H' s'∧tn i s'.heap∧(∀ b∈fp,H' b=none)∧W i n σ' H') ?_ m0 ⟨0,σ,H2,I2,st2,fun b hb=>(f2 b hb).1,w0⟩
  rintro n s3 ⟨i,σ3,H3,I3,st3,fr3,w3⟩
  rcases turn i n σ3 H3 w3 with ⟨stop,qn⟩ | ⟨go,N,hN,step⟩
  · refine wpAny_passesOwn hp (thn (T.done X rfl rfl rfl hc i pins s3 σ3 H3 X.xe I3 (stat fr3) st3 stop) fun r s4 ⟨hr,I4⟩=>?_)
    subst hr
    exact wpAny_execs_nil ⟨σ3,H3,I4,qn⟩
  · refine wpAny_passesOwn hp (thn (T.item X rfl rfl rfl hc i pins s3 σ3 H3 X.xe I3 (stat fr3) st3 go) fun r s4 ⟨u,hr,h4⟩=>?_)
    subst hr
    refine wpAny_passesOwn hp (thn h4 fun _ s5 ⟨x,H5,I5,r5,y5,st5,fr5⟩=>?_)
    have I5':=I5.pinned (stat fr5) (T.obj _ _ st5)
    refine wpAny_passesOwn hp (thn (hg _ s5 σ3 H5 x u _ I5' r5 (step x H5 y5)) fun _ s6 ⟨σ6,H6,I6,q6⟩=>?_)
    refine wpAny_passesOwn hp (thn (hb _ s6 σ6 H6 _ I6 q6) fun f s7 q7=>?_)
    have again:∀ {σ7:St} {H7:Hp},Inv X (pins++pinsAt fp s5.heap) σ7 H7 s7→N σ7 H7→∃ m,m<n∧∃ i σ' H',Inv X pins σ' H' s7∧tn i s7.heap∧(∀ b∈fp,H' b=none)∧W i m σ' H':=fun {σ7 H7} I7 n7=>by
      obtain ⟨m',hm,w7⟩:=hN σ7 H7 n7
      refine ⟨m',hm,i+1,σ7,H7,I7.unpinned,T.keep _ _ _ st5 fun b hb o e=>(I7.pin (b,o) (List.mem_append_right _ (List.mem_append_right _ (mem_pinsAt hb e)))).1,fun b hb=>?_,w7⟩
      obtain ⟨o,e,d⟩:=T.obj _ _ st5 b hb
      exact (I7.pin (b,o) (List.mem_append_right _ (List.mem_append_right _ (mem_pinsAt hb e)))).2.1
    cases f with
    | next=>obtain ⟨σ7,H7,I7,n7⟩:=q7;exact again I7 n7
    | cont=>obtain ⟨σ7,H7,I7,n7⟩:=q7;exact again I7 n7
    | brk=>obtain ⟨σ7,H7,I7,q7⟩:=q7;exact ⟨σ7,H7,I7.unpinned,q7⟩
    | ret v=>obtain ⟨x7,σ7,H7,I7,r7,q7⟩:=q7;exact ⟨x7,σ7,H7,I7.unpinned,r7,q7⟩
end
theorem for_list {K:PySem.W.Frag} {a:Addr} {xs:List V} {g:TG} {tb:TS} {D:Ends} {σ:St} {H:Hp} (Pv:Nat→St→Hp→Prop) (h0:Pv 0 σ H) (hl:∀ i σ H,i≤xs.length→Pv i σ H→SqL K H a xs)
    (hs:∀ i x σ H,xs[i]?=some x→Pv i σ H→g x σ H fun σ2 H2=>tb {D with nx:=Pv (i+1),ct:=Pv (i+1),bk:=D.nx} σ2 H2) (hd:∀ σ H,Pv xs.length σ H→D.nx σ H) :
    ∃ W:Nat→Nat→St→Hp→Prop,(∃ m,W 0 m σ H)∧∀ i m σ H,W i m σ H→
      ((Itl K a).stop i H∧D.nx σ H)∨((Itl K a).go i H∧∃ N:St→Hp→Prop,(∀ σ' H',N σ' H'→∃ m',m'<m∧W (i+1) m' σ' H')∧∀ x H',(Itl K a).yld i H x H'→g x σ H' fun σ2 H2=>tb {D with nx:=N,ct:=N,bk:=D.nx} σ2 H2):=by
  refine ⟨fun i m σ H=>m=xs.length - i∧i≤xs.length∧Pv i σ H,⟨xs.length,by simp,Nat.zero_le _,h0⟩,?_⟩
  rintro i m σ H ⟨rfl,hi,p⟩
  have q:=hl i σ H hi p
  by_cases hlt:i<xs.length
  · refine .inr ⟨⟨xs,xs[i],q,by simp [hlt]⟩,Pv (i+1),fun σ' H' p'=>⟨xs.length - (i+1),by omega,rfl,hlt,p'⟩,fun x H' y=>?_⟩
    obtain ⟨e,y⟩:=y
    subst e
    exact hs i x σ _ (y xs q) p
  · have e:i=xs.length:=by omega
    subst e
    exact .inl ⟨⟨xs,q,Nat.le_refl _⟩,hd σ H p⟩
theorem for_range {lo:Int} {n:Nat} {g:TG} {tb:TS} {D:Ends} {σ:St} {H:Hp} (Pv:Nat→St→Hp→Prop) (h0:Pv 0 σ H)
    (hs:∀ i σ H,i<n→Pv i σ H→g (.int (lo+i)) σ H fun σ2 H2=>tb {D with nx:=Pv (i+1),ct:=Pv (i+1),bk:=D.nx} σ2 H2) (hd:∀ σ H,Pv n σ H→D.nx σ H) :
    ∃ W:Nat→Nat→St→Hp→Prop,(∃ m,W 0 m σ H)∧∀ i m σ H,W i m σ H→
      ((Itr lo n).stop i H∧D.nx σ H)∨((Itr lo n).go i H∧∃ N:St→Hp→Prop,(∀ σ' H',N σ' H'→∃ m',m'<m∧W (i+1) m' σ' H')∧∀ x H',(Itr lo n).yld i H x H'→g x σ H' fun σ2 H2=>tb {D with nx:=N,ct:=N,bk:=D.nx} σ2 H2):=by
  refine ⟨fun i m σ H=>m=n - i∧i≤n∧Pv i σ H,⟨n,by simp,Nat.zero_le _,h0⟩,?_⟩
  rintro i m σ H ⟨rfl,hi,p⟩
  by_cases hlt:i<n
  · refine .inr ⟨hlt,Pv (i+1),fun σ' H' p'=>⟨n - (i+1),by omega,rfl,hlt,p'⟩,fun x H' y=>?_⟩
    obtain ⟨e,y⟩:=y
    subst e y
    exact hs i σ _ hlt p
  · have e:i=n:=by omega
    subst e
    exact .inl ⟨Nat.le_refl _,hd σ H p⟩
end L2
namespace L2
open PySem PySem.Spec PyProof.Rows
noncomputable abbrev R2:=V→V→Hp→VK→Prop
noncomputable def OpR (X:Cx) (f:Value→Value→Sem Value) (r:R2):Prop :=
  ∀ (pins:List (Addr×Obj)) (s:Shared) (σ:St) (H:Hp) (x y:V) (v u:Value) (Q:VK),Inv X pins σ H s→RelV x v→RelV y u→r x y H Q→
    wpAny (model X.prog X.w) X.A (f v u) (EP X pins σ Q) X.xe s
noncomputable def UnR (X:Cx) (f:Value→Sem Value) (r:V→Hp→VK→Prop):Prop :=
  ∀ (pins:List (Addr×Obj)) (s:Shared) (σ:St) (H:Hp) (x:V) (v:Value) (Q:VK),Inv X pins σ H s→RelV x v→r x H Q→
    wpAny (model X.prog X.w) X.A (f v) (EP X pins σ Q) X.xe s
noncomputable def CallR (X:Cx) (f:Value) (r:List V→Hp→VK→Prop):Prop :=
  ∀ (pins:List (Addr×Obj)) (s:Shared) (σ:St) (H:Hp) (xs:List V) (us:List Value) (Q:VK),Inv X pins σ H s→Vals xs us→r xs H Q→
    wpAny (model X.prog X.w) X.A (call f us) (EP X pins σ Q) X.xe s
noncomputable def tOp (r:R2) (ta tb:TE):TE:=fun σ H Q=>ta σ H fun x H1=>tb σ H1 fun y H2=>r x y H2 Q
noncomputable def tUn (r:V→Hp→VK→Prop) (ta:TE):TE:=fun σ H Q=>ta σ H fun x H1=>r x H1 Q
noncomputable def rI (C:Int→Int→Prop) (g:Int→Int→V):R2:=fun x y H Q=>∃ i j,x=.int i∧y=.int j∧C i j∧Q (g i j) H
noncomputable def rI0 (g:Int→Int→V):R2:=fun x y H Q=>∃ i j,x=.int i∧y=.int j∧Q (g i j) H
noncomputable def rU (g:Int→V):V→Hp→VK→Prop:=fun x H Q=>∃ i,x=.int i∧Q (g i) H
section
variable {X:Cx} {a b c:Expr} {ta tb tc:TE} {pos:Pos}
theorem binT (ha:PE X a ta) (hb:PE X b tb) {pins:List (Addr×Obj)} {s:Shared} {σ:St} {H:Hp} {R:V→V→Hp→Prop} (I:Inv X pins σ H s)
    (h:ta σ H fun x H1=>tb σ H1 fun y H2=>R x y H2) {Q:Value→Shared→Prop} {f:Value→Value→Sem Value}
    (hf:∀ v u s2 x y H2,Inv X pins σ H2 s2→RelV x v→RelV y u→R x y H2→wpAny (model X.prog X.w) X.A (f v u) Q X.xe s2) :
    wpAny (model X.prog X.w) X.A (eval a X.env) (fun v s₁=>wpAny (model X.prog X.w) X.A (eval b X.env) (fun u s₂=>wpAny (model X.prog X.w) X.A (f v u) Q X.xe s₂) X.xe s₁) X.xe s:=by
  refine thn (ha pins s σ H _ I h) fun v s1 ⟨x,H1,I1,r1,q1⟩=>?_
  refine thn (hb pins s1 σ H1 _ I1 q1) fun u s2 ⟨y,H2,I2,r2,q2⟩=>?_
  exact hf v u s2 x y H2 I2 r1 r2 q2
theorem pe_op {op:Operator} {r:R2} (ho:OpR X (binaryOp op) r) (ha:PE X a ta) (hb:PE X b tb):PE X (.BinOp a op b pos) (tOp r ta tb):=by
  intro pins s σ H Q I h
  exact wpAny_BinOp (binT ha hb I h fun v u s2 x y H2 I2 rx ry q=>ho pins s2 σ H2 x y v u Q I2 rx ry q)
theorem pe_un {op:UnaryOp} {r:V→Hp→VK→Prop} (ho:UnR X (unaryOp op) r) (ha:PE X a ta):PE X (.UnaryOp op a pos) (tUn r ta):=by
  intro pins s σ H Q I h
  exact UnaryOp_ (thn (ha pins s σ H _ I h) fun v s1 ⟨x,H1,I1,r1,q1⟩=>ho pins s1 σ H1 x v Q I1 r1 q1)
theorem opI {f:Value→Value→Sem Value} {C:Int→Int→Prop} {g:Int→Int→Int}
    (rule:∀ (i j:Int) (t u:Tok) (s:Shared) (Q:Value→Shared→Prop) (E:Value→Shared→Prop),C i j→Q (.int (g i j) s.toks) {s with toks:=s.toks+1}→wpAny (model X.prog X.w) X.A (f (.int i t) (.int j u)) Q E s) :
    OpR X f (rI C fun i j=>.int (g i j)):=by
  intro pins s σ H x y v u Q I rx ry h
  obtain ⟨i,j,rfl,rfl,hc,q⟩:=h
  obtain ⟨t,rfl⟩:=rx
  obtain ⟨t',rfl⟩:=ry
  exact rule i j t t' s _ _ hc ⟨.int (g i j),H,I.tok _,⟨_,rfl⟩,q⟩
theorem opI0 {f:Value→Value→Sem Value} {g:Int→Int→Int}
    (rule:∀ (i j:Int) (t u:Tok) (s:Shared) (Q:Value→Shared→Prop) (E:Value→Shared→Prop),Q (.int (g i j) s.toks) {s with toks:=s.toks+1}→wpAny (model X.prog X.w) X.A (f (.int i t) (.int j u)) Q E s) :
    OpR X f (rI0 fun i j=>.int (g i j)):=by
  intro pins s σ H x y v u Q I rx ry h
  obtain ⟨i,j,rfl,rfl,q⟩:=h
  obtain ⟨t,rfl⟩:=rx
  obtain ⟨t',rfl⟩:=ry
  exact rule i j t t' s _ _ ⟨.int (g i j),H,I.tok _,⟨_,rfl⟩,q⟩
theorem opB0 {f:Value→Value→Sem Value} {g:Int→Int→Bool}
    (rule:∀ (i j:Int) (t u:Tok) (s:Shared) (Q:Value→Shared→Prop) (E:Value→Shared→Prop),Q (.bool (g i j)) s→wpAny (model X.prog X.w) X.A (f (.int i t) (.int j u)) Q E s) :
    OpR X f (rI0 fun i j=>.bl (g i j)):=by
  intro pins s σ H x y v u Q I rx ry h
  obtain ⟨i,j,rfl,rfl,q⟩:=h
  obtain ⟨t,rfl⟩:=rx
  obtain ⟨t',rfl⟩:=ry
  exact rule i j t t' s _ _ ⟨.bl (g i j),H,I,rfl,q⟩
noncomputable def CDiv (i j:Int):Prop:=0<j∧j<1073741824
noncomputable def CPow (i j:Int):Prop:=0≤j∧j≤1000000∧i.natAbs<2 ^ 64
noncomputable def CMul (i j:Int):Prop:=(-(2 ^ 64)<i∧i<2 ^ 64)∨(-(2 ^ 64)<j∧j<2 ^ 64)
theorem CMul.ok {i j:Int} (h:CMul i j):IntMulOk i j:=by
  rcases h with ⟨h1,h2⟩ | ⟨h1,h2⟩
  · exact .of_left (intBits_le_64 h1 h2)
  · exact .of_right (intBits_le_64 h1 h2)
theorem op_add:OpR X (binaryOp .Add) (rI0 fun i j=>.int (i+j)):=opI0 fun _ _ _ _ _ _ _ q=>add_int q
theorem op_sub:OpR X (binaryOp .Sub) (rI0 fun i j=>.int (i - j)):=opI0 fun _ _ _ _ _ _ _ q=>sub_int q
theorem op_mul:OpR X (binaryOp .Mult) (rI CMul fun i j=>.int (i*j)):=opI fun _ _ _ _ _ _ _ hc q=>mul_int q hc.ok
theorem op_fdiv:OpR X (binaryOp .FloorDiv) (rI CDiv fun i j=>.int (i / j)):=opI fun i j _ _ _ _ _ hc q=>by
  have h1:(0:Int)<j:=hc.1
  have h2:j<1073741824:=hc.2
  exact floordiv_int (by omega) (by rw [Int.fdiv_eq_ediv_of_nonneg i (by omega)];exact q) (.inl (PyProof.noPylong_small (by omega)))
theorem op_mod:OpR X (binaryOp .Mod) (rI (fun _ j=>0<j) fun i j=>.int (i % j)):=opI fun i j _ _ _ _ _ hc q=>by
  have h1:(0:Int)<j:=hc
  exact mod_int' (by omega) (by rw [Int.fmod_eq_emod_of_nonneg i (by omega)];exact q)
theorem op_pow:OpR X (binaryOp .Pow) (rI CPow fun i j=>.int (i ^ j.toNat)):=opI fun _ _ _ _ _ _ _ hc q=>pow_int_small hc.1 hc.2.1 hc.2.2 q
theorem unI {f:Value→Sem Value} {g:Int→Int}
    (rule:∀ (i:Int) (t:Tok) (s:Shared) (Q:Value→Shared→Prop) (E:Value→Shared→Prop),Q (.int (g i) s.toks) {s with toks:=s.toks+1}→wpAny (model X.prog X.w) X.A (f (.int i t)) Q E s) :
    UnR X f (rU fun i=>.int (g i)):=by
  intro pins s σ H x v Q I rx h
  obtain ⟨i,rfl,q⟩:=h
  obtain ⟨t,rfl⟩:=rx
  exact rule i t s _ _ ⟨.int (g i),H,I.tok _,⟨_,rfl⟩,q⟩
theorem un_neg:UnR X (unaryOp .USub) (rU fun i=>.int (-i)):=unI fun _ _ _ _ _ q=>neg_int q
end
noncomputable def scal:V→V→Bool
  | .non,.non=>true | .non,.int _=>true | .int _,.non=>true | .non,.bl _=>true | .bl _,.non=>true | .non,.str _=>true | .str _,.non=>true
  | .int _,.int _=>true | .bl _,.bl _=>true | .str _,.str _=>true | .byt _,.byt _=>true
  | .int _,.str _=>true | .str _,.int _=>true | .bl _,.str _=>true | .str _,.bl _=>true
  | _,_=>false
noncomputable def rEq:R2:=fun x y H Q=>scal x y=true∧Q (.bl (decide (x=y))) H
noncomputable def rNe:R2:=fun x y H Q=>scal x y=true∧Q (.bl (!decide (x=y))) H
theorem dec_int {i j:Int}:decide (V.int i=V.int j)=(i==j):=by
  rw [Bool.eq_iff_iff]
  simp
theorem dec_bl {i j:Bool}:decide (V.bl i=V.bl j)=(i==j):=by
  rw [Bool.eq_iff_iff]
  simp
theorem dec_str {i j:Str}:decide (V.str i=V.str j)=(i==j):=by
  rw [Bool.eq_iff_iff]
  simp
theorem dec_byt {i j:Array UInt8}:decide (V.byt i=V.byt j)=(i.toList==j.toList):=by
  rw [Bool.eq_iff_iff]
  cases i
  cases j
  simp
section
variable {X:Cx} {a b c:Expr} {ta tb tc:TE} {pos:Pos}
theorem fin_bl {pins:List (Addr×Obj)} {σ:St} {H:Hp} {s:Shared} {Q:VK} {k k':Bool} (I:Inv X pins σ H s) (q:Q (.bl k) H) (e:k=k'):EP X pins σ Q (.bool k') s:=by
  subst e
  exact ⟨.bl k,H,I,rfl,q⟩
theorem op_eq:OpR X (compareOp .Eq) rEq:=by
  intro pins s σ H x y v u Q I rx ry h
  obtain ⟨hs,q⟩:=h
  cases x with
  | non =>
    cases rx
    cases y with
    | non=>cases ry;exact PySem.EqNone.eq_none_none (fin_bl I q (by simp))
    | bl j=>cases ry;exact PySem.EqNone.eq_none_bool (fin_bl I q (by simp))
    | int j=>obtain ⟨t',rfl⟩:=ry;exact PySem.EqNone.eq_none_int (fin_bl I q (by simp))
    | str j=>obtain ⟨t',rfl⟩:=ry;exact PySem.EqNone.eq_none_str (fin_bl I q (by simp))
    | _=>exact absurd (show false=true from hs) Bool.false_ne_true
  | bl i =>
    cases rx
    cases y with
    | non=>cases ry;exact PySem.EqNone.eq_bool_none (fin_bl I q (by simp))
    | bl j=>cases ry;exact eq_bool (fin_bl I q dec_bl)
    | str j=>obtain ⟨t',rfl⟩:=ry;exact PySem.EqMixed.eq_bool_str (fin_bl I q (by simp))
    | _=>exact absurd (show false=true from hs) Bool.false_ne_true
  | int i =>
    obtain ⟨t,rfl⟩:=rx
    cases y with
    | non=>cases ry;exact PySem.EqNone.eq_int_none (fin_bl I q (by simp))
    | int j=>obtain ⟨t',rfl⟩:=ry;exact eq_int (fin_bl I q dec_int)
    | str j=>obtain ⟨t',rfl⟩:=ry;exact PySem.EqMixed.eq_int_str (fin_bl I q (by simp))
    | _=>exact absurd (show false=true from hs) Bool.false_ne_true
  | str i =>
    obtain ⟨t,rfl⟩:=rx
    cases y with
    | non=>cases ry;exact PySem.EqNone.eq_str_none (fin_bl I q (by simp))
    | bl j=>cases ry;exact PySem.EqMixed.eq_str_bool (fin_bl I q (by simp))
    | int j=>obtain ⟨t',rfl⟩:=ry;exact PySem.EqMixed.eq_str_int (fin_bl I q (by simp))
    | str j=>obtain ⟨t',rfl⟩:=ry;exact eq_str (fin_bl I q dec_str)
    | _=>exact absurd (show false=true from hs) Bool.false_ne_true
  | byt i =>
    obtain ⟨t,rfl⟩:=rx
    cases y with
    | byt j=>obtain ⟨t',rfl⟩:=ry;exact PySem.W.eq_bytes (fin_bl I q dec_byt)
    | _=>exact absurd (show false=true from hs) Bool.false_ne_true
  | _=>cases y <;> exact absurd (show false=true from hs) Bool.false_ne_true
theorem op_ne:OpR X (compareOp .NotEq) rNe:=by
  intro pins s σ H x y v u Q I rx ry h
  obtain ⟨hs,q⟩:=h
  cases x with
  | non =>
    cases rx
    cases y with
    | non=>cases ry;exact PySem.EqNone.ne_none_none (fin_bl I q (by simp))
    | bl j=>cases ry;exact PySem.EqNone.ne_none_bool (fin_bl I q (by simp))
    | int j=>obtain ⟨t',rfl⟩:=ry;exact PySem.EqNone.ne_none_int (fin_bl I q (by simp))
    | str j=>obtain ⟨t',rfl⟩:=ry;exact PySem.EqNone.ne_none_str (fin_bl I q (by simp))
    | _=>exact absurd (show false=true from hs) Bool.false_ne_true
  | bl i =>
    cases rx
    cases y with
    | non=>cases ry;exact PySem.EqNone.ne_bool_none (fin_bl I q (by simp))
    | bl j=>cases ry;exact ne_bool (fin_bl I q (congrArg not dec_bl))
    | str j=>obtain ⟨t',rfl⟩:=ry;exact PySem.EqMixed.ne_bool_str (fin_bl I q (by simp))
    | _=>exact absurd (show false=true from hs) Bool.false_ne_true
  | int i =>
    obtain ⟨t,rfl⟩:=rx
    cases y with
    | non=>cases ry;exact PySem.EqNone.ne_int_none (fin_bl I q (by simp))
    | int j=>obtain ⟨t',rfl⟩:=ry;exact ne_int (fin_bl I q (congrArg not dec_int))
    | str j=>obtain ⟨t',rfl⟩:=ry;exact PySem.EqMixed.ne_int_str (fin_bl I q (by simp))
    | _=>exact absurd (show false=true from hs) Bool.false_ne_true
  | str i =>
    obtain ⟨t,rfl⟩:=rx
    cases y with
    | non=>cases ry;exact PySem.EqNone.ne_str_none (fin_bl I q (by simp))
    | bl j=>cases ry;exact PySem.EqMixed.ne_str_bool (fin_bl I q (by simp))
    | int j=>obtain ⟨t',rfl⟩:=ry;exact PySem.EqMixed.ne_str_int (fin_bl I q (by simp))
    | str j=>obtain ⟨t',rfl⟩:=ry;exact ne_str (fin_bl I q (congrArg not dec_str))
    | _=>exact absurd (show false=true from hs) Bool.false_ne_true
  | byt i =>
    obtain ⟨t,rfl⟩:=rx
    cases y with
    | byt j=>obtain ⟨t',rfl⟩:=ry;exact PySem.W.ne_bytes (fin_bl I q (congrArg not dec_byt))
    | _=>exact absurd (show false=true from hs) Bool.false_ne_true
  | _=>cases y <;> exact absurd (show false=true from hs) Bool.false_ne_true
theorem op_lt:OpR X (compareOp .Lt) (rI0 fun i j=>.bl (decide (i<j))):=opB0 fun _ _ _ _ _ _ _ q=>lt_int q
theorem op_le:OpR X (compareOp .LtE) (rI0 fun i j=>.bl (decide (i≤j))):=opB0 fun _ _ _ _ _ _ _ q=>le_int q
theorem op_gt:OpR X (compareOp .Gt) (rI0 fun i j=>.bl (decide (j<i))):=opB0 fun _ _ _ _ _ _ _ q=>gt_int q
theorem op_ge:OpR X (compareOp .GtE) (rI0 fun i j=>.bl (decide (j≤i))):=opB0 fun _ _ _ _ _ _ _ q=>ge_int q
theorem nomark (b:Expr) {op:CmpOp} (h:op≠.In:=by decide) (h2:op≠.NotIn:=by decide):behindInMarks op b=false:=by
  have e1:(op==CmpOp.In)=false:=by cases op <;> first | rfl | exact absurd rfl h
  have e2:(op==CmpOp.NotIn)=false:=by cases op <;> first | rfl | exact absurd rfl h2
  cases b <;> simp [behindInMarks,e1,e2]
theorem pe_cmpR {op:CmpOp} {r:R2} (ho:OpR X (compareOp op) r) (ha:PE X a ta) (hb:PE X b tb) (hm:behindInMarks op b=false):PE X (.Compare a [op] [b] pos) (tOp r ta tb):=by
  intro pins s σ H Q I h
  exact wpAny_Compare1 (binT ha hb I h fun v u s2 x y H2 I2 rx ry q=>ho pins s2 σ H2 x y v u Q I2 rx ry q) hm
noncomputable def tTest (t:TE):TT:=fun σ H Q=>t σ H fun x H'=>∃ k,x=.bl k∧Q k H'
theorem pt_cmpR {op:CmpOp} {r:R2} (ho:OpR X (compareOp op) r) (ha:PE X a ta) (hb:PE X b tb) (hm:behindInMarks op b=false):PT X (.Compare a [op] [b] pos) (tTest (tOp r ta tb)):=by
  intro pins s σ H Q I h
  refine wpAny_isTrue_Compare1 (thn (ha pins s σ H _ I h) fun v s1 ⟨x,H1,I1,r1,q1⟩=>thn (hb pins s1 σ H1 _ I1 q1) fun u s2 ⟨y,H2,I2,r2,q2⟩ =>
    thn (ho pins s2 σ H2 x y v u _ I2 r1 r2 q2) fun c s3 ⟨z,H3,I3,r3,k,e,q3⟩=>?_) hm
  subst e
  cases r3
  exact wpAny_truthy_bool ⟨H3,I3,q3⟩
noncomputable def tChain (r r':R2) (ta tb tc:TE):TE:=fun σ H Q=>ta σ H fun x H1=>tb σ H1 fun y H2=>r x y H2 fun z H3=>∃ k,z=.bl k∧
  (if k=true then tc σ H3 fun w' H4=>r' y w' H4 Q else Q (.bl false) H3)
theorem pe_chain {op op':CmpOp} {r r':R2} (ho:OpR X (compareOp op) r) (ho':OpR X (compareOp op') r') (ha:PE X a ta) (hb:PE X b tb) (hc:PE X c tc)
    (hm:lastMarks [op,op'] [b,c]=false:=by with_unfolding_all rfl):PE X (.Compare a [op,op'] [b,c] pos) (tChain r r' ta tb tc):=by
  intro pins s σ H Q I h
  refine Compare_chain (thn (ha pins s σ H _ I h) fun v s1 ⟨x,H1,I1,r1,q1⟩=>chain_link (thn (hb pins s1 σ H1 _ I1 q1) fun u s2 ⟨y,H2,I2,r2,q2⟩ =>
    thn (ho pins s2 σ H2 x y v u _ I2 r1 r2 q2) fun d s3 ⟨z,H3,I3,r3,k,e,q3⟩=>?_)) hm
  subst e
  cases r3
  refine wpAny_truthy_bool ?_
  cases k with
  | false=>exact ite_ff ⟨.bl false,H3,I3,rfl,q3⟩
  | true=>exact ite_tt (chain_last (thn (hc pins s3 σ H3 _ I3 q3) fun w' s4 ⟨z',H4,I4,r4,q4⟩=>ho' pins s4 σ H4 y z' u w' Q I4 r2 r4 q4))
theorem pt_chain {op op':CmpOp} {r r':R2} (ho:OpR X (compareOp op) r) (ho':OpR X (compareOp op') r') (ha:PE X a ta) (hb:PE X b tb) (hc:PE X c tc)
    (hm:lastMarks [op,op'] [b,c]=false:=by with_unfolding_all rfl):PT X (.Compare a [op,op'] [b,c] pos) (tTest (tChain r r' ta tb tc)):=by
  intro pins s σ H Q I h
  refine isTrue_chain (thn (ha pins s σ H _ I h) fun v s1 ⟨x,H1,I1,r1,q1⟩=>test_link (thn (hb pins s1 σ H1 _ I1 q1) fun u s2 ⟨y,H2,I2,r2,q2⟩ =>
    thn (ho pins s2 σ H2 x y v u _ I2 r1 r2 q2) fun d s3 ⟨z,H3,I3,r3,k,e,q3⟩=>?_)) hm
  subst e
  cases r3
  refine wpAny_truthy_bool ?_
  cases k with
  | false =>
    obtain ⟨k',e',q'⟩:=q3
    cases e'
    exact ite_ff ⟨H3,I3,q'⟩
  | true =>
    refine ite_tt (test_last (thn (hc pins s3 σ H3 _ I3 q3) fun w' s4 ⟨z',H4,I4,r4,q4⟩=>thn (ho' pins s4 σ H4 y z' u w' _ I4 r2 r4 q4) fun d' s5 ⟨z2,H5,I5,r5,k2,e2,q5⟩=>?_))
    subst e2
    cases r5
    exact wpAny_truthy_bool ⟨H5,I5,q5⟩
theorem line63:(sizeLine:Nat)<2 ^ 63:=by rw [sizeLine_eq];decide
theorem vals1 {x:V} {us:List Value} (r:Vals [x] us):∃ u,us=[u]∧RelV x u:=by
  cases r with
  | cons r1 r2=>cases r2;exact ⟨_,rfl,r1⟩
theorem vals2 {x y:V} {us:List Value} (r:Vals [x,y] us):∃ u w',us=[u,w']∧RelV x u∧RelV y w':=by
  cases r with
  | cons r1 r2 =>
    cases r2 with
    | cons r3 r4=>cases r4;exact ⟨_,_,rfl,r1,r3⟩
theorem call_max2 (hc:X.calm=true):CallR X (.builtin "max") (fun xs H Q=>∃ i j,xs=[.int i,.int j]∧Q (.int (if j>i then j else i)) H):=by
  intro pins s σ H xs us Q I r h
  obtain ⟨i,j,rfl,q⟩:=h
  obtain ⟨u,w',rfl,⟨t,rfl⟩,⟨t',rfl⟩⟩:=vals2 r
  refine max_two_ints (I.ok.hd hc) fun h' tk k=>⟨_,H,I.kept k,?_,q⟩
  by_cases hj:j>i
  · rw [if_pos hj,if_pos hj];exact ⟨_,rfl⟩
  · rw [if_neg hj,if_neg hj];exact ⟨_,rfl⟩
theorem call_min2 (hc:X.calm=true):CallR X (.builtin "min") (fun xs H Q=>∃ i j,xs=[.int i,.int j]∧Q (.int (if j<i then j else i)) H):=by
  intro pins s σ H xs us Q I r h
  obtain ⟨i,j,rfl,q⟩:=h
  obtain ⟨u,w',rfl,⟨t,rfl⟩,⟨t',rfl⟩⟩:=vals2 r
  refine min_two_ints (I.ok.hd hc) fun h' tk k=>⟨_,H,I.kept k,?_,q⟩
  by_cases hj:j<i
  · rw [if_pos hj,if_pos hj];exact ⟨_,rfl⟩
  · rw [if_neg hj,if_neg hj];exact ⟨_,rfl⟩
theorem call_int1:CallR X (.type "int") (fun xs H Q=>(∃ i,xs=[.int i]∧Q (.int i) H)∨∃ k,xs=[.bl k]∧Q (.int (if k then 1 else 0)) H):=by
  intro pins s σ H xs us Q I r h
  rcases h with ⟨i,rfl,q⟩ | ⟨k,rfl,q⟩
  · obtain ⟨u,rfl,t,rfl⟩:=vals1 r
    exact call_int_int ⟨.int i,H,I,⟨_,rfl⟩,q⟩
  · obtain ⟨u,rfl,r1⟩:=vals1 r
    cases r1
    exact call_int_bool ⟨.int (if k then 1 else 0),H,I.tok _,⟨_,rfl⟩,q⟩
end
end L2
namespace L2
open PySem PySem.Spec PyProof.Rows
structure ObjM (h:Heap) (x dx C:Addr) (mA:Str→Option Value):Prop where
  obj:h.get? x=some (PySem.W.instObj C dx)
  ns:h.Ns1 dx mA
  ne:dx≠x
theorem lookIn_ns {h:Heap} {dx:Addr} {mA:Str→Option Value} (n:h.Ns1 dx mA):∃ od,h.get? dx=some od∧∀ name,PySem.W.lookIn name od=some (mA name):=by
  obtain ⟨o,es,ep,ho,hd,hk,_,hm⟩:=n
  refine ⟨o,ho,fun name=>?_⟩
  have e:=hm name
  unfold nsFind findBy at e
  rw [← Array.find?_toList] at e
  unfold PySem.W.lookIn
  rw [hd]
  dsimp only
  split
  · rename_i y q
    rw [q] at e
    exact congrArg some e
  · rename_i q
    rw [q] at e
    have a:es.toList.any (·.refKey)=false:=by
      rw [List.any_eq_false]
      intro y hy
      obtain ⟨z,t,hkey⟩:=hk y (Array.mem_toList_iff.mp hy)
      simp [DictEntry.refKey,hkey]
    have a':¬ es.toList.any (·.refKey)=true:=by rw [a];exact Bool.false_ne_true
    rw [if_neg a']
    exact congrArg some e
theorem ObjM.look {h:Heap} {x dx C:Addr} {mA:Str→Option Value} (I:ObjM h x dx C mA):∃ od,PySem.W.InstAt h x (PySem.W.instObj C dx) C (some od)∧∀ name,PySem.W.lookIn name od=some (mA name) :=
  let ⟨od,ho,hl⟩:=lookIn_ns I.ns
  ⟨od,⟨I.obj,rfl,rfl,ho⟩,hl⟩
section
variable {prog:Program} {w:World} {A:Around} {E:Value→Shared→Prop} {s:Shared} {K:PySem.W.Frag} {x dx C f:Addr} {mA:Str→Option Value} {name:Str} {v:Value}
theorem get_map {expr:Bool} {Q:Value→Shared→Prop} (X:K.In s.heap) (I:ObjM s.heap x dx C mA) (hg:PySem.W.plainGet K C name=true) (hh:PySem.W.hasDictIn K C=true)
    (ha:PySem.W.findIn K (.ref C) name=some none) (hv:mA name=some v) (hv':PySem.W.handedIn v=true) (h:Q v {s with toks:=s.toks+1}) :
    wpAny (model prog w) A (getAttr (.ref x) name expr) Q E s:=by
  obtain ⟨od,J,hl⟩:=I.look
  exact PySem.W.get_value X J (PySem.W.plainGet_of hg).1 (PySem.W.findObj_own hh ha rfl (by rw [hl,hv])) hv' h
theorem get_meth {pl:Sem Bool} {Q:Value×List Value→Shared→Prop} (X:K.In s.heap) (I:ObjM s.heap x dx C mA) (hg:PySem.W.plainGet K C name=true)
    (hf:PySem.W.findIn K (.ref C) name=some (some (.ref f))) (ht:PySem.W.isFn K (.ref f)=true) (hv:mA name=none) (h:Q (.ref f,[.ref x]) s) :
    wpAny (model prog w) A (getMethod (.ref x) name pl) Q E s:=by
  obtain ⟨od,J,hl⟩:=I.look
  exact PySem.W.method_fn X J (PySem.W.plainGet_of hg).1 (PySem.W.plainGet_of hg).2 hf (beq_iff_eq.mp ht) (by show (PySem.W.lookIn name od).map (·.isSome)=some false;rw [hl,hv];rfl) h
theorem set_map {ns:List Str} {Q:Unit→Shared→Prop} (X:K.In s.heap) (I:ObjM s.heap x dx C mA)
    (hs:PySem.W.findIn K (.ref C) "__setattr__"=some (some (.builtin "object.__setattr__"))) (hp:PySem.W.plainOver K C=true) (ht:PySem.W.takerIn K C name=some none) (hh:PySem.W.hasDictIn K C=true)
    (hw:PySem.Within mA ns) (hsz:ns.length≤sizeLine)
    (h:∀ h',ObjM h' x dx C (fun y=>if y=name then some v else mA y)→Heap.SameBut dx s.heap h'→Q () {s with heap:=h',toks:=s.toks+2}) :
    wpAny (model prog w) A (setAttr (.ref x) name v) Q E s:=by
  obtain ⟨od,J,hl⟩:=I.look
  refine PySem.W.set_plain X J hs (PySem.W.osa_open (s:={s with toks:=s.toks+1}) (r:=none) X J hp ht fun b=>?_)
  obtain ⟨cd,hc,hd'⟩:=PySem.W.any_some hh
  have hx:s.heap.get? x=some ⟨.ref C,some dx,.plain,#[]⟩:=I.obj
  refine wpAny_bind (wpAny_pure (wpAny_bind (wpAny_bind (wpAny_loadPart hx (wpAny_bind (PySem.W.Looks.here (s:={s with toks:=s.toks+1}) (PySem.W.looks_clsIn X hc) ?_))))))
  rw [hd']
  refine wpAny_pure (a:=some dx) (wpAny_bind (wpAny_pure (wpAny_bind ?_)))
  refine wpAny_nsSet1 (s:={s with toks:=s.toks+1}) I.ns fun h' hn2 hs2=>?_
  obtain ⟨oD,esD,epD,hoD,hdD,hcD⟩:=hn2.count (PySem.Within.cons name v hw)
  refine wpAny_bind (wpAny_lookBehind hoD (by rw [hdD];exact pastItsLine_dict (Nat.le_trans hcD (by rw [List.length_cons];omega))) ?_)
  exact wpAny_pure (h _ ⟨(hs2.2 _ (Ne.symm I.ne)).trans I.obj,hn2,I.ne⟩ hs2)
theorem make_map {R:Result→Shared→Prop} {vs:List Value} {kw:List (Str×Value)} (X:K.In s.heap) (hm:PySem.W.makesIn K C=true)
    (hi:PySem.W.findIn K (.ref C) "__init__"=some (some (.ref f))) (hf:PySem.W.typeIn K (.ref f)=some (.type "function"))
    (h:codeAny (model prog w) (A.under (.builtin "type.__call__" ⟨.ref C::vs,kw⟩)) (.call (.ref f) ⟨.ref (s.heap.objs.size+1)::vs,kw⟩) (PySem.W.InitBack (s.heap.objs.size+1) R)
      {s with heap:=(s.heap.push PySem.W.emptyDict).push (PySem.W.instObj C s.heap.objs.size)}) :
    codeAny (model prog w) A (.call (.ref C) ⟨vs,kw⟩) R s:=by
  obtain ⟨hh,g,d,t,os⟩:=s
  exact PySem.W.make_core (PySem.W.makes_of X hm) (PySem.W.looks_findIn X hi) (fun self=>PySem.W.bind_fn X self hf) (.inl rfl) h
end
noncomputable def putF (f:Str) (v:V):List (Str×V)→List (Str×V)
  | []=>[(f,v)]
  | (g,x)::r=>if g=f then (g,v)::r else (g,x)::putF f v r
theorem lookup_putF (f g:Str) (v:V):∀ fs:List (Str×V),(putF f v fs).lookup g=if g=f then some v else fs.lookup g
  | []=>by
    show List.lookup g [(f,v)]=_
    by_cases h:g=f
    · have hb:(g==f)=true:=beq_iff_eq.mpr h
      simp only [List.lookup,hb,if_pos h]
    · have hb:(g==f)=false:=beq_eq_false_iff_ne.mpr h
      simp only [List.lookup,hb,if_neg h]
  | (k,x)::r=>by
    have ih:=lookup_putF f g v r
    rw [show putF f v ((k,x)::r)=(if k=f then (k,v)::r else (k,x)::putF f v r) from rfl]
    by_cases hk:k=f
    · rw [if_pos hk]
      by_cases h:g=k
      · have hb:(g==k)=true:=beq_iff_eq.mpr h
        simp only [List.lookup,hb,if_pos (h.trans hk)]
      · have hb:(g==k)=false:=beq_eq_false_iff_ne.mpr h
        simp only [List.lookup,hb,if_neg (fun e:g=f=>h (e.trans hk.symm))]
    · rw [if_neg hk]
      by_cases h:g=k
      · have hb:(g==k)=true:=beq_iff_eq.mpr h
        simp only [List.lookup,hb,if_neg (fun e:g=f=>hk (h.symm.trans e))]
      · have hb:(g==k)=false:=beq_eq_false_iff_ne.mpr h
        simp only [List.lookup,hb]
        exact ih
theorem keys_putF (f:Str) (v:V):∀ fs:List (Str×V),f∈(putF f v fs).map (·.1)∧∀ g,g∈fs.map (·.1)→g∈(putF f v fs).map (·.1)
  | []=>⟨by simp [putF],fun g h=>by simp at h⟩
  | (k,x)::r=>by
    obtain ⟨i1,i2⟩:=keys_putF f v r
    rw [show putF f v ((k,x)::r)=(if k=f then (k,v)::r else (k,x)::putF f v r) from rfl]
    by_cases hk:k=f
    · rw [if_pos hk]
      subst hk
      exact ⟨by simp,fun g h=>by simpa using h⟩
    · rw [if_neg hk]
      refine ⟨?_,fun g h=>?_⟩
      · rw [List.map_cons]
        exact List.mem_cons_of_mem _ i1
      · rw [List.map_cons] at h⊢
        rcases List.mem_cons.mp h with e | e
        · exact List.mem_cons.mpr (.inl e)
        · exact List.mem_cons_of_mem _ (i2 g e)
theorem length_putF (f:Str) (v:V):∀ fs:List (Str×V),(putF f v fs).length≤fs.length+1
  | []=>by simp [putF]
  | (k,x)::r=>by
    have ih:=length_putF f v r
    rw [show putF f v ((k,x)::r)=(if k=f then (k,v)::r else (k,x)::putF f v r) from rfl]
    by_cases hk:k=f
    · rw [if_pos hk,List.length_cons,List.length_cons];omega
    · rw [if_neg hk,List.length_cons,List.length_cons];omega
theorem RelO.some_of {v:V} {o:Option Value} (r:RelO (some v) o):∃ u,o=some u∧RelV v u:=by
  cases o with
  | none=>exact (show False from r).elim
  | some u=>exact ⟨u,rfl,r⟩
theorem RelO.none_of {o:Option Value} (r:RelO none o):o=none:=by
  cases o with
  | none=>rfl
  | some u=>exact (show False from r).elim
theorem handed_of {v:V} {u:Value} (r:RelV v u):PySem.W.handedIn u=true:=by
  cases v with
  | non=>cases (show u=Value.none from r);rfl
  | bl b=>cases (show u=Value.bool b from r);rfl
  | int i=>obtain ⟨t,e⟩:=(show ∃ t,u=Value.int i t from r);cases e;rfl
  | str x=>obtain ⟨t,e⟩:=(show ∃ t,u=Value.str x t from r);cases e;rfl
  | byt b=>obtain ⟨t,e⟩:=(show ∃ t,u=Value.bytes b t from r);cases e;rfl
  | flt b=>obtain ⟨t,e⟩:=(show ∃ t,u=Value.float b t from r);cases e;rfl
  | ref a=>cases (show u=Value.ref a from r);rfl
  | ty n=>cases (show u=Value.type n from r);rfl
section
variable {P:Program} {w:World} {H H':Hp} {h h':Heap} {a C dx:Addr} {fs fs':List (Str×V)}
theorem ins_get (hok:HOk P w H h) (e:H a=some (.ins C dx fs)):∃ mA,ObjM h a dx C mA∧(∀ f,RelO (fs.lookup f) (mA f))∧PySem.Within mA (fs.map (·.1))∧fs.length≤1000∧H dx=some (.own a):=by
  obtain ⟨d,z,ne,ob,mA,n,r,q⟩:=(show ObjOk P w H h a (.ins C dx fs) from hok a _ e)
  exact ⟨mA,⟨ob,n,ne⟩,r,q,z,d⟩
end
structure Cls (K:PySem.W.Frag) (C:Addr):Prop where
  pg:PySem.W.plainGet K C Str.empty=true
  hd:PySem.W.hasDictIn K C=true
  po:PySem.W.plainOver K C=true
  sa:PySem.W.findIn K (.ref C) "__setattr__"=some (some (.builtin "object.__setattr__"))
theorem Cls.get {K:PySem.W.Frag} {C:Addr} (c:Cls K C) (f:Str):PySem.W.plainGet K C f=true:=c.pg
noncomputable def NoAttr (K:PySem.W.Frag) (C:Addr) (f:Str):Prop:=PySem.W.findIn K (.ref C) f=some none
theorem NoAttr.taker {K:PySem.W.Frag} {C:Addr} {f:Str} (n:NoAttr K C f):PySem.W.takerIn K C f=some none:=by
  unfold PySem.W.takerIn
  rw [show PySem.W.findIn K (.ref C) f=some none from n]
  rfl
structure Meth (K:PySem.W.Frag) (C:Addr) (m:Str) (f:Addr):Prop where
  at_:PySem.W.findIn K (.ref C) m=some (some (.ref f))
  fn:PySem.W.isFn K (.ref f)=true
  kp:PySem.W.keepIn K (.ref f)=true
section
variable {X:Cx} {pins:List (Addr×Obj)} {σ:St} {H:Hp} {s:Shared} {a C dx:Addr} {fs:List (Str×V)} {f:Str} {v:V} {A:Around} {E:Value→Shared→Prop}
theorem getattr_ok {b:Bool} {Q:Value→Shared→Prop} (I:Inv X pins σ H s) (e:H a=some (.ins C dx fs)) (c:Cls X.K C) (n:NoAttr X.K C f) (l:fs.lookup f=some v)
    (h:∀ u s',Inv X pins σ H s'→RelV v u→Q u s'):wpAny (model X.prog X.w) A (getAttr (.ref a) f b) Q E s:=by
  obtain ⟨mA,O,r,_,_,_⟩:=ins_get I.hok e
  obtain ⟨u,hu,ru⟩:=RelO.some_of (v:=v) (o:=mA f) (by rw [← l];exact r f)
  exact get_map I.kIn O (c.get f) c.hd n hu (handed_of ru) (h u _ (I.tok _) ru)
theorem getmeth_ok {m:Str} {g:Addr} {pl:Sem Bool} {Q:Value×List Value→Shared→Prop} (I:Inv X pins σ H s) (e:H a=some (.ins C dx fs)) (c:Cls X.K C) (k:Meth X.K C m g) (l:fs.lookup m=none)
    (h:Q (.ref g,[.ref a]) s):wpAny (model X.prog X.w) A (getMethod (.ref a) m pl) Q E s:=by
  obtain ⟨mA,O,r,_,_,_⟩:=ins_get I.hok e
  have hn:mA m=none:=RelO.none_of (by rw [← l];exact r m)
  exact get_meth I.kIn O (c.get m) k.at_ k.fn hn h
theorem setattr_ok {y:V} {u:Value} {Q:Unit→Shared→Prop} (I:Inv X pins σ H s) (e:H a=some (.ins C dx fs)) (c:Cls X.K C) (n:NoAttr X.K C f) (hl:fs.length<1000) (ry:RelV y u)
    (h:∀ s',Inv X pins σ (upd H a (.ins C dx (putF f y fs))) s'→Q () s'):wpAny (model X.prog X.w) A (setAttr (.ref a) f u) Q E s:=by
  obtain ⟨mA,O,r,wi,_,ho⟩:=ins_get I.hok e
  have hz:(fs.map (·.1)).length≤sizeLine:=by rw [List.length_map,sizeLine_eq];omega
  refine set_map I.kIn O c.sa c.po n.taker c.hd wi hz fun h' O' sb=>h _ ?_
  have hd:∃ o,h'.get? dx=some o:=let ⟨o,_,_,e',_⟩:=O'.ns;⟨o,e'⟩
  refine I.write (x:=a) (e:=dx) (by rw [e];exact True.intro) (.inr ho) (fun b q hb z=>(sb.2 b hb).trans z) hd ?_
  refine ⟨by rw [upd_ne O.ne];exact ho,?_,O.ne,O'.obj,_,O'.ns,fun g=>?_,fun g hg=>?_⟩
  · have:=length_putF f y fs;omega
  · show RelO ((putF f y fs).lookup g) (if g=f then some u else mA g)
    rw [lookup_putF]
    by_cases q:g=f
    · rw [if_pos q,if_pos q];exact ry
    · rw [if_neg q,if_neg q];exact r g
  · by_cases q:g=f
    · rw [q];exact (keys_putF f y fs).1
    · refine (keys_putF f y fs).2 g (wi g fun z=>hg ?_)
      show (if g=f then some u else mA g)=none
      rw [if_neg q];exact z
theorem Inv.made (I:Inv X pins σ H s):Inv X pins σ (upd (upd H s.heap.objs.size (.own (s.heap.objs.size+1))) (s.heap.objs.size+1) (.ins C s.heap.objs.size []))
    {s with heap:=(s.heap.push PySem.W.emptyDict).push (PySem.W.instObj C s.heap.objs.size)}:=by
  have e1:(s.heap.push PySem.W.emptyDict).get? s.heap.objs.size=some PySem.W.emptyDict:=Heap.get?_push_size s.heap rfl
  have e2:((s.heap.push PySem.W.emptyDict).push (PySem.W.instObj C s.heap.objs.size)).get? (s.heap.objs.size+1)=some (PySem.W.instObj C s.heap.objs.size):=by
    have:=Heap.get?_push_size (s.heap.push PySem.W.emptyDict) (o:=PySem.W.instObj C s.heap.objs.size) rfl
    rwa [Heap.size_push] at this
  have e3:(s.heap.push PySem.W.emptyDict).Ns s.heap.objs.size (fun _=>none):=⟨PySem.W.emptyDict,#[],_,e1,rfl,(fun e he=>absurd he (by simp)),fun _=>rfl⟩
  have I1:=I.laid (a:=s.heap.objs.size) (o:=.own (s.heap.objs.size+1)) (h':=s.heap.push PySem.W.emptyDict) (t':=s.toks) (fun b u q=>Heap.get?_push_of_some _ q) (Nat.le_refl _) ⟨_,e1⟩
  refine I1.laid (a:=s.heap.objs.size+1) (o:=.ins C s.heap.objs.size []) (t':=s.toks) (fun b u q=>Heap.get?_push_of_some _ q) (Nat.le_of_eq (Heap.size_push _ _)) ?_
  have ne:s.heap.objs.size≠s.heap.objs.size+1:=Nat.ne_of_lt (Nat.lt_succ_self _)
  refine ⟨by rw [upd_ne ne,upd_same],Nat.zero_le _,ne,e2,fun _=>none,(Heap.Ns1.of_empty e3).at fun o q=>Heap.get?_push_of_some _ q,fun _=>True.intro,fun y hy=>absurd rfl hy⟩
theorem attr_of {prog:Program} {w:World} {env:Env} {e:Expr} {f:Str} {pos:Pos} {s:Shared} {Q:Value→Shared→Prop} (hb:attributeBase e f env (eval e env)=eval e env)
    (h:wpAny (model prog w) A (eval e env) (fun o s₁=>wpAny (model prog w) A (getAttr o f true) Q E s₁) E s):wpAny (model prog w) A (eval (.Attribute e f pos) env) Q E s :=
  Attribute_any_ h (by rw [arm_eval_Attribute,hb])
end
noncomputable def tFld (K:PySem.W.Frag) (ta:TE) (f:Str):TE:=fun σ H Q=>ta σ H fun x H1=>∃ a C dx fs v,x=.ref a∧H1 a=some (.ins C dx fs)∧Cls K C∧NoAttr K C f∧fs.lookup f=some v∧Q v H1
noncomputable def sFld (K:PySem.W.Frag) (ta tv:TE) (f:Str):TS:=fun D σ H=>tv σ H fun y H1=>ta σ H1 fun x H2=>∃ a C dx fs,x=.ref a∧H2 a=some (.ins C dx fs)∧Cls K C∧NoAttr K C f∧fs.length<1000∧
  D.nx σ (upd H2 a (.ins C dx (putF f y fs)))
section
variable {X:Cx} {o e value:Expr} {f:Str} {pos pos' tpos:Pos} {ta tv:TE}
theorem pe_fld (he:PE X e ta) (hb:attributeBase e f X.env (eval e X.env)=eval e X.env):PE X (.Attribute e f pos) (tFld X.K ta f):=by
  intro pins s σ H Q I h
  refine attr_of hb (thn (he pins s σ H _ I h) fun u s1 ⟨x,H1,I1,rx,a,C,dx,fs,v,ex,ea,c,n,l,q⟩=>?_)
  subst ex
  obtain rfl:u=Value.ref a:=rx
  exact getattr_ok I1 ea c n l fun u' s2 I2 ru=>⟨v,H1,I2,ru,q⟩
theorem ps_fld (ha:PE X o ta) (hv:PE X value tv) (hs:swapsWith value (some (.Attribute o f pos')) pos.line X.env=pure false):PS X (.Assign [.Attribute o f pos'] value pos) (sFld X.K ta tv f):=by
  intro pins s σ H D I h
  refine plainObj_wpAny_Assign_Attribute (thn (hv pins s σ H _ I h) fun u s1 ⟨y,H1,I1,ry,q⟩=>thn (ha pins s1 σ H1 _ I1 q) fun ov s2 ⟨x,H2,I2,rx,a,C,dx,fs,ex,ea,c,n,l,q2⟩=>?_) hs
  subst ex
  obtain rfl:ov=Value.ref a:=rx
  exact setattr_ok I2 ea c n l ry fun s3 I3=>⟨σ,_,I3,q2⟩
theorem methcall_of {pl:Sem Bool} {m:Str} {apos:Pos} {args:List Expr} {pins:List (Addr×Obj)} {s:Shared} {σ:St} {H:Hp} {Q:Value→Shared→Prop} {te:TE} (he:PE X e te) (I:Inv X pins σ H s)
    (h:te σ H fun x H1=>∃ a C dx fs g,x=.ref a∧H1 a=some (.ins C dx fs)∧Cls X.K C∧Meth X.K C m g∧fs.lookup m=none∧
      ∀ s1,Inv X pins σ H1 s1→wpAny (model X.prog X.w) X.A (callWith pos (.ref g) [.ref a] (backTo pos (starEach args X.env)) (backToKw pos (keywordEach [] X.env))) Q X.xe s1)
    (ht:eval (.Call (.Attribute e m apos) args [] pos) X.env=(do
      let ov ← eval e X.env
      standAt apos.atName
      let (f,first) ← holding [ov] (getMethod ov m pl)
      callWith pos f first (backTo pos (starEach args X.env)) (backToKw pos (keywordEach [] X.env)))) :
    wpAny (model X.prog X.w) X.A (eval (.Call (.Attribute e m apos) args [] pos) X.env) Q X.xe s:=by
  refine PySem.W.methodCall_KW (pl:=pl) (thn (he pins s σ H _ I h) fun u s1 ⟨x,H1,I1,rx,a,C,dx,fs,g,ex,ea,c,k,l,q⟩=>?_) ht
  subst ex
  obtain rfl:u=Value.ref a:=rx
  exact getmeth_ok I1 ea c k l (q s1 I1)
end
section
variable {X:Cx} {pins:List (Addr×Obj)} {σ:St} {H:Hp} {s:Shared} {A:Around} {E:Value→Shared→Prop} {Q:Value→Shared→Prop} {c:Value} {b:Bool}
inductive TyOf (K:PySem.W.Frag) (H:Hp):V→Value→Prop where
  | non:TyOf K H .non (.type "NoneType")
  | bl (x:Bool):TyOf K H (.bl x) (.type "bool")
  | int (i:Int):TyOf K H (.int i) (.type "int")
  | str (x:Str):TyOf K H (.str x) (.type "str")
  | flt (x:UInt64):TyOf K H (.flt x) (.type "float")
  | lst {a:Addr} {xs:List V} (e:H a=some (.lst xs)):TyOf K H (.ref a) (.type "list")
  | frz {a:Addr} {o:Obj} {xs:List V} (e:H a=some (.frz o (.lst xs))):TyOf K H (.ref a) (.type "list")
  | tup {a:Addr} {xs:List V} (e:H a=some (.tup xs)):TyOf K H (.ref a) (.type "tuple")
  | dK {a:Addr} {kvs:List (Key×V)} (e:H a=some (.dK kvs)):TyOf K H (.ref a) (.type "dict")
  | dT {a:Addr} {kvs:List (List Key×V)} (e:H a=some (.dT kvs)):TyOf K H (.ref a) (.type "dict")
  | ins {a C dx:Addr} {fs:List (Str×V)} (e:H a=some (.ins C dx fs)) (cl:Cls K C) (ha:PySem.W.findIn K (.ref C) "__class__"=some (some (.builtin "object.__class__")))
      (hn:PySem.W.specialIn K (.builtin "object.__class__") "__get__"=some (some (.builtin "getset_descriptor.__get__"))) (htk:PySem.W.takesIn K (.builtin "object.__class__")=some true)
      (hm:PySem.W.mroIn K C (.type "object")=some true):TyOf K H (.ref a) (.ref C)
theorem isinst_ok {x:V} {u t:Value} (I:Inv X pins σ H s) (rx:RelV x u) (ty:TyOf X.K H x t) (e:PySem.W.kitOne X.K t c=some b) (h:∀ tk,Q (.bool b) {s with toks:=tk}) :
    wpAny (model X.prog X.w) A (call (.builtin "isinstance") [u,c]) Q E s:=by
  cases ty with
  | non=>cases (show u=Value.none from rx);exact PySem.W.kia_one PySem.W.kitx_none I.kIn True.intro e (fun z=>nomatch z) h
  | bl y=>cases (show u=Value.bool y from rx);exact PySem.W.kia_one PySem.W.kitx_bool I.kIn True.intro e (fun z=>nomatch z) h
  | int i=>obtain ⟨t,q⟩:=(show ∃ t,u=Value.int i t from rx);cases q;exact PySem.W.kia_one PySem.W.kitx_int I.kIn True.intro e (fun z=>nomatch z) h
  | str y=>obtain ⟨t,q⟩:=(show ∃ t,u=Value.str y t from rx);cases q;exact PySem.W.kia_one PySem.W.kitx_str I.kIn True.intro e (fun z=>nomatch z) h
  | flt y=>obtain ⟨t,q⟩:=(show ∃ t,u=Value.float y t from rx);cases q;exact PySem.W.kia_one PySem.W.kitx_float I.kIn True.intro e (fun z=>nomatch z) h
  | @lst a xs ea =>
    cases (show u=Value.ref a from rx)
    obtain ⟨_,_,n,_,h1⟩:=(show ObjOk X.prog X.w H s.heap a (.lst xs) from I.hok a _ ea)
    exact PySem.W.kia_one PySem.W.kitx_list I.kIn ⟨_,h1,rfl⟩ e (fun z=>nomatch z) h
  | @frz a ob xs ea =>
    cases (show u=Value.ref a from rx)
    obtain ⟨_,_,_,n,_,h1⟩:=(show ObjOk X.prog X.w H s.heap a (.frz ob (.lst xs)) from I.hok a _ ea)
    exact PySem.W.kia_one PySem.W.kitx_list I.kIn ⟨_,h1,rfl⟩ e (fun z=>nomatch z) h
  | @tup a xs ea =>
    cases (show u=Value.ref a from rx)
    obtain ⟨_,_,_,p⟩:=(show ObjOk X.prog X.w H s.heap a (.tup xs) from I.hok a _ ea)
    obtain ⟨o,h1,h2,_⟩:=p
    exact PySem.W.kia_one PySem.W.kitx_tuple I.kIn ⟨o,h1,h2⟩ e (fun z=>nomatch z) h
  | @dK a kvs ea =>
    cases (show u=Value.ref a from rx)
    obtain ⟨_,_,vs,_,p⟩:=(show ObjOk X.prog X.w H s.heap a (.dK kvs) from I.hok a _ ea)
    obtain ⟨o,es,ep,h1,h2,_⟩:=p
    exact PySem.W.kia_one PySem.W.kitx_dict I.kIn ⟨o,h1,h2.1⟩ e (fun z=>nomatch z) h
  | @dT a kvs ea =>
    cases (show u=Value.ref a from rx)
    obtain ⟨_,_,xs,_,o,es,ep,h1,h2,_⟩:=(show ObjOk X.prog X.w H s.heap a (.dT kvs) from I.hok a _ ea)
    exact PySem.W.kia_one PySem.W.kitx_dict I.kIn ⟨o,h1,h2.1⟩ e (fun z=>nomatch z) h
  | @ins a C dx fs ea cl ha hn htk hm =>
    cases (show u=Value.ref a from rx)
    obtain ⟨mA,O,_⟩:=ins_get I.hok ea
    obtain ⟨od,J,_⟩:=O.look
    exact PySem.W.kia_one (PySem.W.kitx_own (cl.get _) cl.hd ha hn htk hm) I.kIn J e (fun z=>nomatch z) h
end
end L2
namespace L2
open PySem PySem.Spec PyProof.Rows
structure Room (k:Nat) (A:Around):Prop where
  hd:A.handled=none
  dp:A.depth+3*k+5<recursionLimit
  un:A.units+16*k+200<cLine
  gd:A.guards=some []
theorem Room.mono {j k:Nat} {A:Around} (r:Room k A) (h:j≤k):Room j A:=⟨r.hd,by have:=r.dp;omega,by have:=r.un;omega,r.gd⟩
theorem Room.deeper {k:Nat} {A:Around} (r:Room (k+1) A) (env:Env):Room k (A.deeper env) :=
  ⟨r.hd,by have:=r.dp;show A.depth+1+3*k+5<_;omega,by have:=r.un;show A.units+3+16*k+200<_;omega,r.gd⟩
theorem make_depth {A:Around} {C:Addr} {us:List Value} {kw:List (Str×Value)}:(A.under (.builtin "type.__call__" ⟨.ref C::us,kw⟩)).depth=A.depth+1:=by
  first | rfl | simp [Around.under,Code.weight,Code.isCreation,Code.isGuard,Code.isCaller,Code.frames,Code.isFrame,guardIds]
theorem make_units {A:Around} {C:Addr} {us:List Value} {kw:List (Str×Value)}:(A.under (.builtin "type.__call__" ⟨.ref C::us,kw⟩)).units=A.units+1:=by
  first | rfl | simp [Around.under,Code.cUnits,Code.frames,Code.isFrame]
theorem Room.make {k:Nat} {A:Around} (r:Room (k+1) A) (C:Addr) (us:List Value) (kw:List (Str×Value)):Room k (A.under (.builtin "type.__call__" ⟨.ref C::us,kw⟩)) :=
  ⟨r.hd,by have:=r.dp;rw [make_depth];omega,by have:=r.un;rw [make_units];omega,by have:=r.gd;first | exact this | (simp [Around.under,Code.isGuard,guardIds];exact this)⟩
theorem Room.depth {k:Nat} {A:Around} (r:Room k A):A.depth<recursionLimit:=by have:=r.dp;omega
theorem Room.units {k:Nat} {A:Around} (r:Room k A):A.units+64<cLine:=by have:=r.un;omega
noncomputable def tNil:TA:=fun _ H Q=>Q [] H
noncomputable def tCons (ta:TE) (tr:TA):TA:=fun σ H Q=>ta σ H fun x H1=>tr σ H1 fun xs H2=>Q (x::xs) H2
section
variable {X:Cx} {e:Expr} {es:List Expr} {te:TE} {t:TA} {pos:Pos}
theorem pa_nil:PA X [] tNil:=fun _ _ _ _ H Q I h=>Calls.spliced_nil ⟨[],H,I,.nil,h⟩
theorem pa_cons (ha:PE X e te) (hr:PA X es t) (hs:starEach (e::es) X.env=(false,eval e X.env)::starEach es X.env:=by rfl):PA X (e::es) (tCons te t):=by
  intro pos pins s σ H Q I h
  rw [hs]
  show wpAny _ _ (spliced ((false,eval e X.env)::backTo pos (starEach es X.env))) _ _ s
  refine Calls.spliced_cons (thn (ha pins s σ H _ I h) fun u s1 ⟨x,H1,I1,r1,q1⟩=>?_)
  exact thn (hr pos pins s1 σ H1 _ I1 q1) fun us s2 ⟨xs,H2,I2,r2,q2⟩=>⟨x::xs,H2,I2,.cons r1 r2,q2⟩
noncomputable def tTup (t:TA):TE:=fun σ H Q=>t σ H fun xs H1=>xs.length≤sizeLine∧∀ p,H1 p=none→Q (.ref p) (upd H1 p (.tup xs))
noncomputable def tLst (t:TA):TE:=fun σ H Q=>t σ H fun xs H1=>xs.length≤sizeLine∧∀ p,H1 p=none→Q (.ref p) (upd H1 p (.lst xs))
theorem pe_tup {x1} (h:PA X es t):PE X (.Tuple es x1 pos) (tTup t):=by
  intro pins s σ H Q I hq
  refine wpAny_Tuple_spliced (thn (h pos pins s σ H _ I hq) fun us s1 ⟨xs,H1,I1,r,z,q⟩=>⟨by rw [← r.length];exact z,?_⟩)
  have hf:H1 s1.heap.objs.size=none:=I1.hok.fresh (Nat.le_refl _)
  refine ⟨.ref s1.heap.objs.size,upd H1 s1.heap.objs.size (.tup xs),I1.laid (t':=s1.toks) (fun b u e=>Heap.get?_push_of_some _ e) (Nat.le_refl _) ?_,rfl,q _ hf⟩
  exact ⟨z,us,r,⟨_,Heap.get?_push_size _ rfl,rfl,_,rfl⟩⟩
theorem pe_lst (h:PA X es t):PE X (.List es pos) (tLst t):=by
  intro pins s σ H Q I hq
  refine wpAny_List_spliced (thn (h pos pins s σ H _ I hq) fun us s1 ⟨xs,H1,I1,r,z,q⟩=>⟨by rw [← r.length];exact z,?_⟩)
  have hf:H1 s1.heap.objs.size=none:=I1.hok.fresh (Nat.le_refl _)
  refine ⟨.ref s1.heap.objs.size,upd H1 s1.heap.objs.size (.lst xs),I1.laid (t':=s1.toks) (fun b u e=>Heap.get?_push_of_some _ e) (Nat.le_refl _) ?_,rfl,q _ hf⟩
  exact ⟨z,us,0,r,Heap.get?_push_size _ rfl⟩
end
noncomputable abbrev Sp:=List V→Hp→VK→XK→Prop
noncomputable abbrev CXT:=List Env→Hp→Shared→XK→Value→Shared→Prop
structure Env0 (P:Program) (w:World) (K:PySem.W.Frag) (mg:Str→Option Value) (base:Heap) (A:Around) (outer:List Env) (s:Shared) (H:Hp):Prop where
  frames:A.frames=some outer
  mod:Mod K mg base
  bs:∀ b o,base.get? b=some o→s.heap.get? b=some o∧H b=none
  bsz:base.objs.size≤s.heap.objs.size
  funs:s.heap.FunFrames base outer
  frf:∀ b∈frs outer,H b=none
  hok:HOk P w H s.heap
  bare:AllBare s.gens
noncomputable def CE (outer:List Env) (P:Program) (w:World) (H:Hp) (s:Shared) (Q:VK) (u:Value) (s':Shared):Prop :=
  ∃ v H',s'.os=s.os∧AllBare s'.gens∧Un (frs outer) [] H H' s.heap s'.heap∧HOk P w H' s'.heap∧RelV v u∧Q v H'
noncomputable def CR (CX:CXT) (outer:List Env) (P:Program) (w:World) (H:Hp) (s:Shared) (Q:VK) (E:XK) (r:Result) (s':Shared):Prop :=
  match r with
  | .ok (.ret u)=>CE outer P w H s Q u s'
  | .ok _=>False
  | .error e=>CX outer H s E e s'
structure FnOk (P:Program) (w:World) (K:PySem.W.Frag) (mg:Str→Option Value) (base:Heap) (CX:CXT) (k:Nat) (f:Addr) (fd:FuncData) (ps:List Str) (sp:Sp):Prop where
  len:∀ vs H Q E,sp vs H Q E→vs.length=ps.length
  run:∀ (A:Around) (outer:List Env) (s:Shared) (H:Hp) (args:Args) (us:List Value) (vs:List V) (Q:VK) (E:XK),Room k A→Env0 P w K mg base A outer s H→BindsTo s fd args (ps.zip us)→Vals vs us→sp vs H Q E→
    codeAny (model P w) A (.call (.ref f) args) (CR CX outer P w H s Q E) s
theorem FnOk.imp {P:Program} {w:World} {K:PySem.W.Frag} {mg:Str→Option Value} {base:Heap} {CX:CXT} {k:Nat} {f:Addr} {fd:FuncData} {ps:List Str} {sp sp':Sp} (F:FnOk P w K mg base CX k f fd ps sp)
    (h:∀ vs H Q E,sp' vs H Q E→sp vs H Q E):FnOk P w K mg base CX k f fd ps sp' :=
  ⟨fun vs H Q E q=>F.len vs H Q E (h _ _ _ _ q),fun A outer s H args us vs Q E hr he hb hv hs=>F.run A outer s H args us vs Q E hr he hb hv (h _ _ _ _ hs)⟩
theorem Env0.make {P:Program} {w:World} {K:PySem.W.Frag} {mg:Str→Option Value} {base:Heap} {A:Around} {outer:List Env} {s:Shared} {H:Hp} (e:Env0 P w K mg base A outer s H) (C:Addr) (us:List Value) (kw:List (Str×Value)) :
    Env0 P w K mg base (A.under (.builtin "type.__call__" ⟨.ref C::us,kw⟩)) outer s H:=⟨by first | exact e.frames | (simpa [Around.under,Code.envs,Code.isFrame,pushEnvs] using e.frames),e.mod,e.bs,e.bsz,e.funs,e.frf,e.hok,e.bare⟩
section
variable {X:Cx} {pins:List (Addr×Obj)} {σ:St} {H:Hp} {s s':Shared}
theorem Inv.env0 (I:Inv X pins σ H s):Env0 X.prog X.w X.K X.mg X.base X.A X.stack s H :=
  ⟨I.ok.frames,I.ok.mod,I.bs,Nat.le_trans I.ok.bsz I.sz,I.stack,I.stkFree,I.hok,I.bare⟩
theorem Inv.after {Q:VK} {u:Value} (I:Inv X pins σ H s) (h:CE X.stack X.prog X.w H s Q u s'):EP X pins σ Q u s':=by
  obtain ⟨v,H',os,bare,un,hok,r,q⟩:=h
  obtain ⟨hh,g,d,t,os'⟩:=s'
  obtain rfl:os'=s.os:=os
  exact ⟨v,H',I.call (h':=hh) (g':=g) (d':=d) (t':=t) (ch:=[]) un hok bare (fun b z=>absurd z (by simp)),r,q⟩
end
noncomputable def tCall (sp:Sp) (dvs:List V) (E:XK) (t:TA):TE:=fun σ H Q=>t σ H fun vs H1=>sp (vs++dvs) H1 Q E
noncomputable def tMeth (C:Addr) (m:Str) (sp:Sp) (dvs:List V) (E:XK) (ta:TE) (t:TA):TE:=fun σ H Q=>ta σ H fun x H1=>∃ a dx fs,x=.ref a∧H1 a=some (.ins C dx fs)∧fs.lookup m=none∧
  t σ H1 fun vs H2=>sp (x::(vs++dvs)) H2 Q E
noncomputable def tMake (C:Addr) (sp:Sp) (dvs:List V) (E:XK) (t:TA):TE:=fun σ H Q=>t σ H fun vs H1=>∀ x dx,H1 x=none→H1 dx=none→dx≠x→
  sp (.ref x::(vs++dvs)) (upd (upd H1 dx (.own x)) x (.ins C dx [])) (fun v H2=>v=.non∧Q (.ref x) H2) E
noncomputable def Binds (K:PySem.W.Frag) (fd:FuncData) (ps:List Str) (ds:List Value):Prop :=
  ∀ (s:Shared) (us:List Value),K.In s.heap→(us++ds).length=ps.length→BindsTo s fd ⟨us,[]⟩ (ps.zip (us++ds))
theorem Binds.all {K:PySem.W.Frag} {fd:FuncData} {ps:List Str} (h:∀ us:List Value,us.length=ps.length→bindArgs fd ⟨us,[]⟩=pure (ps.zip us)):Binds K fd ps []:=fun s us _ hl=>by
  rw [List.append_nil] at hl⊢
  exact .of_eq (h us hl)
noncomputable def Passes (CX:CXT) (X:Cx) (E:XK):Prop:=∀ (pins:List (Addr×Obj)) (σ:St) (H:Hp) (s:Shared) (e:Value) (s':Shared),Inv X pins σ H s→CX X.stack H s E e s'→X.xe e s'
section
variable {X:Cx} {CX:CXT} {k:Nat} {f C:Addr} {fd:FuncData} {ps:List Str} {sp:Sp} {dvs:List V} {ds:List Value} {E:XK} {x m:Str} {p pos apos:Pos} {e o:Expr} {es:List Expr} {ta:TE} {t:TA}
theorem run_fn {pins:List (Addr×Obj)} {σ:St} {H:Hp} {s:Shared} {Q:VK} {us:List Value} {vs:List V} (F:FnOk X.prog X.w X.K X.mg X.base CX k f fd ps sp) (hr:Room k X.A) (hb:Binds X.K fd ps ds) (hd:Vals dvs ds) (hx:Passes CX X E)
    (I:Inv X pins σ H s) (r:Vals vs us) (h:sp (vs++dvs) H Q E):wpAny (model X.prog X.w) X.A (call (.ref f) us) (EP X pins σ Q) X.xe s:=by
  have r2:Vals (vs++dvs) (us++ds):=r.append hd
  have hl:(us++ds).length=ps.length:=by rw [← r2.length];exact F.len _ _ _ _ h
  refine wpAny_call (codeAny_mono (F.run X.A X.stack s H ⟨us,[]⟩ (us++ds) (vs++dvs) Q E hr I.env0 (hb s us I.kIn hl) r2 h) fun r s' hq=>?_)
  cases r with
  | error e=>exact hx pins σ H s e s' I hq
  | ok fl =>
    cases fl with
    | ret u=>exact I.after hq
    | next=>exact False.elim hq
    | brk=>exact False.elim hq
    | cont=>exact False.elim hq
theorem pe_call (F:FnOk X.prog X.w X.K X.mg X.base CX k f fd ps sp) (hr:Room k X.A) (hg:Gl X x) (hm:X.mg x=some (.ref f)) (hk:PySem.W.keepIn X.K (.ref f)=true) (hb:Binds X.K fd ps ds) (hd:Vals dvs ds) (hx:Passes CX X E)
    (ha:PA X (e::es) t) (hdb:(x==("__debug__":Str))=false:=by decide) (he:starEach (e::es) X.env=(false,eval e X.env)::starEach es X.env:=by rfl) (hpl:(backTo pos (starEach es X.env)).any (·.1)=false:=by rfl) :
    PE X (.Call (.Name x p) (e::es) [] pos) (tCall sp dvs E t):=by
  intro pins s σ H Q I h
  refine wpAny_Call_Name_kw (ld_glob I hg hm ?_ hdb)
  refine PySem.W.callWith_K (h₀:=X.base) I.ok.mod.kin hk (thn (ha pos pins s σ H _ I h) fun us s1 ⟨vs,H1,I1,r,q⟩=>⟨I1.kIn,?_⟩) he hpl
  exact run_fn F hr hb hd hx I1 r q
theorem pe_meth {pl:Sem Bool} (he:PE X o ta) (c:Cls X.K C) (hm:Meth X.K C m f) (F:FnOk X.prog X.w X.K X.mg X.base CX k f fd ps sp) (hr:Room k X.A) (hb:Binds X.K fd ps ds) (hd:Vals dvs ds) (hx:Passes CX X E) (ha:PA X (e::es) t)
    (hst:starEach (e::es) X.env=(false,eval e X.env)::starEach es X.env:=by rfl) (hpl:(backTo pos (starEach es X.env)).any (·.1)=false:=by rfl)
    (ht:eval (.Call (.Attribute o m apos) (e::es) [] pos) X.env=(do
      let ov ← eval o X.env
      standAt apos.atName
      let (f,first) ← holding [ov] (getMethod ov m pl)
      callWith pos f first (backTo pos (starEach (e::es) X.env)) (backToKw pos (keywordEach [] X.env))):=by rfl) :
    PE X (.Call (.Attribute o m apos) (e::es) [] pos) (tMeth C m sp dvs E ta t):=by
  intro pins s σ H Q I h
  refine PySem.W.methodCall_KW (pl:=pl) (thn (he pins s σ H _ I h) fun u s1 ⟨x,H1,I1,rx,a,dx,fs,ex,ea,l,q⟩=>?_) ht
  subst ex
  obtain rfl:u=Value.ref a:=rx
  refine getmeth_ok I1 ea c hm l ?_
  refine PySem.W.callWith_K (first:=[.ref a]) (h₀:=X.base) I.ok.mod.kin hm.kp (thn (ha pos pins s1 σ H1 _ I1 q) fun us s2 ⟨vs,H2,I2,r,q2⟩=>⟨I2.kIn,?_⟩) hst hpl
  exact run_fn (us:=.ref a::us) (vs:=.ref a::vs) F hr hb hd hx I2 (.cons rfl r) q2
theorem pe_meth0 {pl:Sem Bool} (he:PE X o ta) (c:Cls X.K C) (hm:Meth X.K C m f) (F:FnOk X.prog X.w X.K X.mg X.base CX k f fd ps sp) (hr:Room k X.A) (hb:Binds X.K fd ps ds) (hd:Vals dvs ds) (hx:Passes CX X E)
    (ht:eval (.Call (.Attribute o m apos) [] [] pos) X.env=(do
      let ov ← eval o X.env
      standAt apos.atName
      let (f,first) ← holding [ov] (getMethod ov m pl)
      callWith pos f first (backTo pos (starEach [] X.env)) (backToKw pos (keywordEach [] X.env))):=by rfl) :
    PE X (.Call (.Attribute o m apos) [] [] pos) (tMeth C m sp dvs E ta tNil):=by
  intro pins s σ H Q I h
  refine PySem.W.methodCall_KW (pl:=pl) (thn (he pins s σ H _ I h) fun u s1 ⟨x,H1,I1,rx,a,dx,fs,ex,ea,l,q⟩=>?_) ht
  subst ex
  obtain rfl:u=Value.ref a:=rx
  refine getmeth_ok I1 ea c hm l ?_
  exact PySem.W.callWith_K0 (first:=[.ref a]) I1.kIn hm.kp (run_fn (us:=[.ref a]) (vs:=[.ref a]) F hr hb hd hx I1 (.cons rfl .nil) q)
structure Mk (K:PySem.W.Frag) (C f:Addr):Prop where
  makes:PySem.W.makesIn K C=true
  init:PySem.W.findIn K (.ref C) "__init__"=some (some (.ref f))
  fn:PySem.W.isFn K (.ref f)=true
  kp:PySem.W.keepIn K (.ref C)=true
theorem run_make {pins:List (Addr×Obj)} {σ:St} {H:Hp} {s:Shared} {Q:VK} {us:List Value} {vs:List V} (M:Mk X.K C f) (F:FnOk X.prog X.w X.K X.mg X.base CX k f fd ps sp) (hr:Room (k+1) X.A) (hb:Binds X.K fd ps ds) (hd:Vals dvs ds)
    (hx:Passes CX X E) (I:Inv X pins σ H s) (r:Vals vs us)
    (h:∀ x dx,H x=none→H dx=none→dx≠x→sp (.ref x::(vs++dvs)) (upd (upd H dx (.own x)) x (.ins C dx [])) (fun v H2=>v=.non∧Q (.ref x) H2) E) :
    wpAny (model X.prog X.w) X.A (call (.ref C) us) (EP X pins σ Q) X.xe s:=by
  have hq:=h (s.heap.objs.size+1) s.heap.objs.size (I.hok.fresh (Nat.le_succ _)) (I.hok.fresh (Nat.le_refl _)) (Nat.ne_of_lt (Nat.lt_succ_self _))
  have I2:=Inv.made (C:=C) I
  have r2:Vals (V.ref (s.heap.objs.size+1)::(vs++dvs)) (Value.ref (s.heap.objs.size+1)::(us++ds)):=.cons rfl (r.append hd)
  have hl:(Value.ref (s.heap.objs.size+1)::us++ds).length=ps.length:=by
    have e:=r2.length
    rw [F.len _ _ _ _ hq] at e
    exact e.symm
  refine wpAny_call (make_map (f:=f) I.kIn M.makes M.init (beq_iff_eq.mp M.fn) (codeAny_mono (F.run _ X.stack _ _ ⟨Value.ref (s.heap.objs.size+1)::us,[]⟩ (Value.ref (s.heap.objs.size+1)::(us++ds)) _ _ E (hr.make C us [])
    (I2.env0.make C us []) (hb _ (Value.ref (s.heap.objs.size+1)::us) I2.kIn hl) r2 hq) fun r s' hq'=>?_))
  cases r with
  | error e=>exact hx pins σ _ _ e s' I2 hq'
  | ok fl =>
    cases fl with
    | ret u =>
      obtain ⟨v,H',I3,rv,ev,q3⟩:=I2.after hq'
      subst ev
      exact ⟨rv,⟨V.ref (s.heap.objs.size+1),H',I3,rfl,q3⟩⟩
    | next=>exact False.elim hq'
    | brk=>exact False.elim hq'
    | cont=>exact False.elim hq'
theorem pe_make (M:Mk X.K C f) (F:FnOk X.prog X.w X.K X.mg X.base CX k f fd ps sp) (hr:Room (k+1) X.A) (hg:Gl X x) (hm:X.mg x=some (.ref C)) (hb:Binds X.K fd ps ds) (hd:Vals dvs ds) (hx:Passes CX X E)
    (ha:PA X (e::es) t) (hdb:(x==("__debug__":Str))=false:=by decide) (he:starEach (e::es) X.env=(false,eval e X.env)::starEach es X.env:=by rfl) (hpl:(backTo pos (starEach es X.env)).any (·.1)=false:=by rfl) :
    PE X (.Call (.Name x p) (e::es) [] pos) (tMake C sp dvs E t):=by
  intro pins s σ H Q I h
  refine wpAny_Call_Name_kw (ld_glob I hg hm ?_ hdb)
  refine PySem.W.callWith_K (h₀:=X.base) I.ok.mod.kin M.kp (thn (ha pos pins s σ H _ I h) fun us s1 ⟨vs,H1,I1,r,q⟩=>⟨I1.kIn,?_⟩) he hpl
  exact run_make M F hr hb hd hx I1 r q
end
section
variable {X:Cx} {CX:CXT} {k:Nat} {f C:Addr} {fd:FuncData} {ps ks:List Str} {sp:Sp} {E:XK} {x m:Str} {p pos apos kpos:Pos} {e o:Expr} {es:List Expr} {kws:List Keyword} {te ta:TE} {t tk:TA} {nm:Option Str}
variable {g:List Value→List Value→List Value} {gV:List V→List V→List V}
end
structure FnScope (N P:List Str) (sc:Scope):Prop where
  kind:sc.kind=.function
  co:sc.isCoroutine=false
  gen:sc.isGenerator=false
  nd:N.Nodup
  pre:N.take P.length=P
  par:∀ x∈P,sc.names.lookup x=some .local∨sc.names.lookup x=some .cell
  nofree:∀ y∈sc.names,y.2≠.free
theorem bindL_out {kindOf:Str→Option NameKind} {x:Str}:∀ {binds:List (Str×Value)} {m:Str→Option Value},(∀ v,(x,v)∉binds)→bindL kindOf binds m x=m x
  | [],_,_=>rfl
  | (n,v)::r,m,h=>by
    unfold bindL
    rw [bindL_out fun w hw=>h w (List.mem_cons_of_mem _ hw)]
    split
    · have:x≠n:=by rintro rfl;exact h v List.mem_cons_self
      simp [this]
    · rfl
theorem bindC_out {kindOf:Str→Option NameKind} {x:Str}:∀ {binds:List (Str×Value)} {m:Str→Option Value},(∀ v,(x,v)∉binds)→bindC kindOf binds m x=m x
  | [],_,_=>rfl
  | (n,v)::r,m,h=>by
    unfold bindC
    rw [bindC_out fun w hw=>h w (List.mem_cons_of_mem _ hw)]
    split
    · rfl
    · have:x≠n:=by rintro rfl;exact h v List.mem_cons_self
      simp [this]
theorem bindL_get {kindOf:Str→Option NameKind} {x:Str} {v:Value}:∀ {P:List Str} {vs:List Value} {i:Nat} {m:Str→Option Value},P.Nodup→P[i]?=some x→vs[i]?=some v→kindOf x=some .local→
    bindL kindOf (P.zip vs) m x=some v
  | [],_,_,_,_,h,_,_=>by simp at h
  | _::_,[],_,_,_,_,h,_=>by simp at h
  | p::P,w::vs,0,m,nd,h1,h2,hk=>by
    simp at h1 h2;subst h1;subst h2
    show bindL kindOf ((p,w)::P.zip vs) m p=_
    unfold bindL
    rw [bindL_out fun v hv=>(List.nodup_cons.mp nd).1 (List.of_mem_zip hv).1,if_pos hk]
    simp
  | p::P,w::vs,i+1,m,nd,h1,h2,hk=>by
    show bindL kindOf ((p,w)::P.zip vs) m x=_
    unfold bindL
    exact bindL_get (i:=i) (List.nodup_cons.mp nd).2 (by simpa using h1) (by simpa using h2) hk
theorem bindC_get {kindOf:Str→Option NameKind} {x:Str} {v:Value}:∀ {P:List Str} {vs:List Value} {i:Nat} {m:Str→Option Value},P.Nodup→P[i]?=some x→vs[i]?=some v→kindOf x≠some .local→
    bindC kindOf (P.zip vs) m x=some v
  | [],_,_,_,_,h,_,_=>by simp at h
  | _::_,[],_,_,_,_,h,_=>by simp at h
  | p::P,w::vs,0,m,nd,h1,h2,hk=>by
    simp at h1 h2;subst h1;subst h2
    show bindC kindOf ((p,w)::P.zip vs) m p=_
    unfold bindC
    rw [bindC_out fun v hv=>(List.nodup_cons.mp nd).1 (List.of_mem_zip hv).1,if_neg hk]
    simp
  | p::P,w::vs,i+1,m,nd,h1,h2,hk=>by
    show bindC kindOf ((p,w)::P.zip vs) m x=_
    unfold bindC
    exact bindC_get (i:=i) (List.nodup_cons.mp nd).2 (by simpa using h1) (by simpa using h2) hk
noncomputable def start (N:List Str) (vs:List V):St:=vs.map some++List.replicate (N.length - vs.length) none
noncomputable def cxOf (CX:CXT) (P:Program) (w:World) (K:PySem.W.Frag) (mg:Str→Option Value) (base:Heap) (N:List Str) (qual:Str) (scope:Scope) (f:Addr) (cd:Value) (A:Around) (outer:List Env) (s:Shared) (H:Hp) (E:XK):Cx where
  prog:=P
  w:=w
  K:=K
  mg:=mg
  base:=base
  A:=A.deeper (envOfC qual scope s.heap.objs.size f cd)
  N:=N
  s₀:=s
  H₀:=H
  env:=envOfC qual scope s.heap.objs.size f cd
  outer:=outer
  stack:=envOfC qual scope s.heap.objs.size f cd::outer
  ex:=[]
  calm:=true
  fn:=fun _=>true
  pn:=[]
  xe:=fun e s'=>wpAny (model P w) (A.deeper (envOfC qual scope s.heap.objs.size f cd)) (leaving (envOfC qual scope s.heap.objs.size f cd) e) (fun _ s''=>CX outer H s E e s'') (fun e' s''=>CX outer H s E e' s'') s'
theorem cell_has {sc:Scope} {n:Nat} {x:Str} (h:sc.names.lookup x=some .cell):∃ c,(cellsFrom n sc.names []).lookup x=some c:=by
  have q:=PySem.W.cellsFrom_some sc.names n [] (.inl h)
  exact Option.isSome_iff_exists.mp q
theorem inv_start {CX:CXT} {P:Program} {w:World} {K:PySem.W.Frag} {mg:Str→Option Value} {base:Heap} {N ps:List Str} {qual:Str} {scope:Scope} {f:Addr} {cd:Value} {A:Around} {outer:List Env} {s s1:Shared} {H:Hp} {E:XK} {us:List Value} {vs:List V}
    (S:FnScope N ps scope) (hd:A.handled=none) (e0:Env0 P w K mg base A outer s H) (hl:vs.length=ps.length) (r:Vals vs us)
    (x:InCallC s s.heap.objs.size (bindL (envOfC qual scope s.heap.objs.size f cd).kindOf (ps.zip us) fun _=>none) (cellsFrom (s.heap.objs.size+1) scope.names []) (bindC (envOfC qual scope s.heap.objs.size f cd).kindOf (ps.zip us) fun _=>none) s1) :
    Inv (cxOf CX P w K mg base N qual scope f cd A outer s H E) [] (start N vs) H s1:=by
  have hpl:ps.length≤N.length:=by have:=congrArg List.length S.pre;rw [List.length_take] at this;omega
  obtain ⟨h1,tk,rfl,hk⟩:=x.done
  have noA:∀ b:Addr,b∉(cxOf CX P w K mg base N qual scope f cd A outer s H E).ex:=fun b z=>absurd (show b∈([]:List Addr) from z) (by simp)
  refine ⟨⟨e0.mod,S.kind,rfl,rfl,Nat.le_refl _,fun y z c h1 h2=>?_,fun y hy=>?_,fun y c _ h=>?_,fun _=>hd,Around.frames_deeper e0.frames,.inr ⟨rfl,rfl⟩,fun b z=>absurd z (noA b),e0.bs,e0.bsz,fun b _ _=>noA b,fun b z=>absurd z (noA b),e0.funs,e0.frf⟩,
    rfl,e0.bare,Un.kept hk,⟨_,x.toInCall.ns,fun i y v h1 h2 h3=>?_⟩,fun y c h=>⟨_,x.cell y c h⟩,e0.hok.fresh (Nat.le_refl _),fun y c h=>?_,fun p hp=>absurd (show p∈([]:List (Addr×Obj)) from hp) (by simp),e0.hok.kept hk,?_⟩
  · exact name_of_addr x.apart (PySem.mem_of_lookup h1) (PySem.mem_of_lookup h2)
  · have hy:scope.names.lookup y=some .cell∨scope.names.lookup y=some .free:=hy
    rcases hy with hy | hy
    · exact cell_has hy
    · exact absurd rfl (S.nofree _ (PySem.mem_of_lookup hy))
  · exact Nat.le_of_lt (x.above y c (PySem.mem_of_lookup h))
  · have hi:i<vs.length:=by
      unfold start at h2
      by_cases hi:i<vs.length
      · exact hi
      · rw [List.getElem?_append_right (by simpa using hi)] at h2
        rw [List.getElem?_replicate] at h2
        split at h2 <;> cases h2
    have ha:vs[i]?=some v:=by
      unfold start at h2
      rw [List.getElem?_append_left (by simpa using hi),List.getElem?_map] at h2
      cases e:vs[i]? with
      | none=>rw [e] at h2;cases h2
      | some a=>rw [e] at h2;cases h2;rfl
    obtain ⟨u,hu,rv⟩:=r.get ha
    have hp:ps[i]?=some y:=by
      rw [← S.pre,List.getElem?_take_of_lt (by omega)];exact h1
    have ndP:ps.Nodup:=by rw [← S.pre];exact S.nd.sublist (List.take_sublist _ _)
    refine ⟨u,rv,?_⟩
    rcases S.par y (List.mem_of_getElem? hp) with k | k
    · exact .inl ⟨k,bindL_get ndP hp hu k⟩
    · obtain ⟨c,e⟩:=cell_has (n:=s.heap.objs.size+1) k
      refine .inr ⟨.inl k,c,e,?_⟩
      have q:=x.cell y c e
      rw [bindC_get ndP hp hu (by show scope.names.lookup y≠_;rw [k];decide)] at q
      exact q
  · exact e0.hok.fresh (Nat.le_of_lt (x.above y c (PySem.mem_of_lookup h)))
  · unfold start
    show _=N.length
    rw [List.length_append,List.length_map,List.length_replicate]
    omega
theorem fn_of {CX:CXT} {P:Program} {w:World} {K:PySem.W.Frag} {mg:Str→Option Value} {base:Heap} {k:Nat} {f:Addr} {name qual:Str} {params:Arguments} {body:List Stmt} {scope:Scope} {dV kV doc pm cdv ct oc:Value} {an od:Option Addr}
    {osl:Array (Option Value)} {N ps:List Str} {sp:Sp} (lk:K.lookup f=some ⟨oc,od,.func (PySem.W.fnOf name qual params body scope dV kV doc pm an cdv ct),osl⟩) (hcd:PySem.W.codeIn K cdv qual=true) (S:FnScope N ps scope)
    (len:∀ vs H Q E,sp vs H Q E→vs.length=ps.length)
    (hbody:∀ (A:Around) (outer:List Env) (s:Shared) (H:Hp) (vs:List V) (Q:VK) (E:XK),Room k (A.deeper (envOfC qual scope s.heap.objs.size f cdv))→sp vs H Q E→
      ∃ t,PSs (cxOf CX P w K mg base N qual scope f cdv A outer s H E) body t∧t {nx:=fun _ H'=>Q .non H',rt:=Q} (start N vs) H) :
    FnOk P w K mg base CX (k+1) f (PySem.W.fnOf name qual params body scope dV kV doc pm an cdv ct) ps sp:=by
  refine ⟨len,fun A outer s H args us vs Q E hr e0 hb r hsp=>?_⟩
  have hl:=len _ _ _ _ hsp
  have KX:K.In s.heap:=e0.mod.kin.keeps fun b o e=>(e0.bs b o e).1
  have lim:s.heap.NoLimit:=e0.mod.nolimit.keeps fun b o e=>(e0.bs b o e).1
  have hkind:∀ y∈ps.zip us,scope.names.lookup y.1=some .local∨(scope.names.lookup y.1=some .cell∧((cellsFrom (s.heap.objs.size+1) scope.names []).lookup y.1).isSome=true):=fun ⟨n,v⟩ hy=>by
    rcases S.par n (List.of_mem_zip hy).1 with q | q
    · exact .inl q
    · exact .inr ⟨q,PySem.W.cellsFrom_some _ _ _ (.inl q)⟩
  refine codeAny_call_function hr.depth (KX _ _ lk) rfl S.co S.gen rfl (PySem.W.codeRec_of KX hcd) (hb _ _ _ _ ?_)
  refine wpAny_newFunctionEnv_cells S.kind hkind fun env he s1 x=>?_
  subst he
  refine ⟨lim.keeps x.toInCall.keep,codeAny_func ?_⟩
  obtain ⟨t,ht,hq⟩:=hbody A outer s H vs Q E (hr.deeper _) hsp
  have I:Inv (cxOf CX P w K mg base N qual scope f cdv A outer s H E) [] (start N vs) H s1:=inv_start S hr.hd e0 hl r x
  refine wpAny_mono (ht [] s1 (start N vs) H _ I hq) (fun fl s' hs=>?_) fun e s' hs=>hs
  have fin:∀ {σ':St} {H':Hp} {v:V} {u:Value},Inv (cxOf CX P w K mg base N qual scope f cdv A outer s H E) [] σ' H' s'→RelV v u→Q v H'→CE outer P w H s Q u s' :=
    fun {σ' H' v u} J rv q=>⟨v,H',J.os,J.bare,J.base,J.hok,rv,q⟩
  cases fl with
  | ret u =>
    obtain ⟨v,σ',H',J,rv,q⟩:=hs
    exact fin J rv q
  | next =>
    obtain ⟨σ',H',J,q⟩:=hs
    exact fin (v:=V.non) (u:=Value.none) J rfl q
  | brk =>
    obtain ⟨_,_,_,q⟩:=hs
    exact False.elim q
  | cont =>
    obtain ⟨_,_,_,q⟩:=hs
    exact False.elim q
end L2
namespace L2
open PySem PySem.Spec PyProof.Rows
section
variable {X:Cx} {x:Str} {p pos:Pos} {e:Expr} {es:List Expr} {t:TA} {id T:String} {r:List V→Hp→VK→Prop}
noncomputable def tCB (r:List V→Hp→VK→Prop) (t:TA):TE:=fun σ H Q=>t σ H fun vs H1=>r vs H1 Q
theorem pe_callB (hc:CallR X (.builtin id) r) (hg:Gl X x) (hm:X.mg x=none) (hv:bootBuiltins x=some (.builtin id)) (ha:PA X (e::es) t) (hn:x≠"__name__":=by decide) (hdb:(x==("__debug__":Str))=false:=by decide)
    (he:starEach (e::es) X.env=(false,eval e X.env)::starEach es X.env:=by rfl) (hpl:(backTo pos (starEach es X.env)).any (·.1)=false:=by rfl):PE X (.Call (.Name x p) (e::es) [] pos) (tCB r t):=by
  intro pins s σ H Q I h
  refine wpAny_Call_Name_kw (ld_blt I hg hm hv ?_ hn hdb)
  exact PyProof.Rows.callWith_builtin1 (thn (ha pos pins s σ H _ I h) fun us s1 ⟨vs,H1,I1,r1,q1⟩=>hc pins s1 σ H1 vs us Q I1 r1 q1) he hpl
theorem pe_callTy (hc:CallR X (.type T) r) (hg:Gl X x) (hm:X.mg x=none) (hv:bootBuiltins x=some (.type T)) (ha:PA X (e::es) t) (hn:x≠"__name__":=by decide) (hdb:(x==("__debug__":Str))=false:=by decide)
    (he:starEach (e::es) X.env=(false,eval e X.env)::starEach es X.env:=by rfl) (hpl:(backTo pos (starEach es X.env)).any (·.1)=false:=by rfl):PE X (.Call (.Name x p) (e::es) [] pos) (tCB r t):=by
  intro pins s σ H Q I h
  refine wpAny_Call_Name_kw (ld_blt I hg hm hv ?_ hn hdb)
  exact PyProof.Rows.callWith_type1 (thn (ha pos pins s σ H _ I h) fun us s1 ⟨vs,H1,I1,r1,q1⟩=>hc pins s1 σ H1 vs us Q I1 r1 q1) he hpl
end
end L2
namespace HT
open PySem PyProof.Rows
section
open PySem.SeqAt
open PySem.AutoSeq1 (wpAny_loadPart')
open PySem.MeetsSeq PySem.MeetsSeq2 PySem.MeetsSeq3
end
section
variable {prog:Program} {w:World} {A:Around} {E:Value→Shared→Prop} {s:Shared}
noncomputable def sIx (n d:Nat):Option Int→Nat
  | none=>d
  | some v=>if v<0 then (v+(n:Int)).toNat else min v.toNat n
theorem sIx_none (n d:Nat):sIx n d none=d:=rfl
theorem sIx_nat (n d k:Nat):sIx n d (some (k:Int))=min k n:=by
  show (if (k:Int)<0 then ((k:Int)+(n:Int)).toNat else min (k:Int).toNat n)=min k n
  rw [if_neg (by omega),Int.toNat_natCast]
end
end HT
namespace L2
open PySem PySem.Spec PyProof.Rows
noncomputable abbrev TO:=St→Hp→(Option Int→Hp→Prop)→Prop
noncomputable def PO (X:Cx) (e:Option Expr) (t:TO):Prop :=
  ∀ (pins:List (Addr×Obj)) (s:Shared) (σ:St) (H:Hp) (Q:Option Int→Hp→Prop),Inv X pins σ H s→t σ H Q→
    wpAny (model X.prog X.w) X.A (evalPart e X.env) (fun u s'=>∃ o H',Inv X pins σ H' s'∧IsPart u o∧Q o H') X.xe s
noncomputable def tNoPart:TO:=fun _ H Q=>Q none H
noncomputable def tPart (t:TE):TO:=fun σ H Q=>t σ H fun x H1=>∃ i,x=.int i∧Q (some i) H1
section
variable {X:Cx} {e:Expr} {te:TE} {lo hi:Option Expr} {tl th:TO} {pos p2:Pos}
theorem po_none:PO X none tNoPart:=by
  intro pins s σ H Q I h
  rw [evalPart_none]
  exact wpAny_pure ⟨none,H,I,.none,h⟩
theorem po_some (h:PE X e te):PO X (some e) (tPart te):=by
  intro pins s σ H Q I hw
  rw [evalPart_some]
  refine thn (h pins s σ H _ I hw) fun u s1 ⟨x,H1,I1,r1,q1⟩=>?_
  obtain ⟨i,rfl,q⟩:=q1
  obtain ⟨t,rfl⟩:=r1
  exact ⟨some i,H1,I1,.int i t,q⟩
noncomputable def SlR (X:Cx) (r:V→Option Int→Option Int→Hp→VK→Prop):Prop :=
  ∀ (pins:List (Addr×Obj)) (s:Shared) (σ:St) (H:Hp) (x:V) (v vl vu:Value) (lo hi:Option Int) (sl:Addr) (Q:VK),Inv X pins σ H s→RelV x v→s.heap.IsSliceOf sl vl vu .none→IsPart vl lo→IsPart vu hi→r x lo hi H Q→
    ∃ T id,typeLookup (.type T) "__getitem__"=pure (some (.builtin id))∧s.TypeIs v T∧wpAny (model X.prog X.w) X.A (getItem v (.ref sl)) (EP X pins σ Q) X.xe s
noncomputable def tSl (r:V→Option Int→Option Int→Hp→VK→Prop) (te:TE) (tl th:TO):TE:=fun σ H Q=>te σ H fun x H1=>tl σ H1 fun l H2=>th σ H2 fun u H3=>r x l u H3 Q
theorem pe_slice {r:V→Option Int→Option Int→Hp→VK→Prop} (hr:SlR X r) (he:PE X e te) (hl:PO X lo tl) (hu:PO X hi th):PE X (.Subscript e (.Slice lo hi none p2) pos) (tSl r te tl th):=by
  intro pins s σ H Q I h
  refine Subscript_ (thn (he pins s σ H _ I h) fun v s1 ⟨x,H1,I1,r1,q1⟩=>?_)
  refine wpAny_Slice (thn (hl pins s1 σ H1 _ I1 q1) fun vl s2 ⟨l,H2,I2,pl,q2⟩=>thn (hu pins s2 σ H2 _ I2 q2) fun vu s3 ⟨u,H3,I3,pu,q3⟩=>?_)
  rw [evalPart_none]
  refine wpAny_pure ?_
  have I4:Inv X pins σ H3 {s3 with heap:=s3.heap.push {cls:=.type "slice",data:=.fields #[vl,vu,.none]}}:=I3.kept (t':=s3.toks) fun b ob q=>Heap.get?_push_of_some _ q
  obtain ⟨T,id,hT,ht,hg⟩:=hr pins {s3 with heap:=s3.heap.push {cls:=.type "slice",data:=.fields #[vl,vu,.none]}} σ H3 x v vl vu l u s3.heap.objs.size Q I4 r1 (Heap.IsSliceOf.new ..) pl pu q3
  show wpAny (model X.prog X.w) X.A (subscriptTail e (.Slice lo hi none p2) v (.ref s3.heap.objs.size)) (EP X pins σ Q) X.xe {s3 with heap:=s3.heap.push {cls:=.type "slice",data:=.fields #[vl,vu,.none]}}
  exact tail_any (ops:=[.ref s3.heap.objs.size,v]) ht hT hg (by with_unfolding_all rfl)
noncomputable def cutV (xs:List V) (lo hi:Option Int):List V:=(xs.drop (HT.sIx xs.length 0 lo)).take (HT.sIx xs.length xs.length hi - HT.sIx xs.length 0 lo)
theorem cutV_length (xs:List V) (lo hi:Option Int):(cutV xs lo hi).length≤xs.length:=by
  unfold cutV
  rw [List.length_take,List.length_drop]
  omega
end
end L2
namespace L2
open PySem PySem.Spec PyProof.Rows
noncomputable def ixN (n:Nat) (i:Int):Option Nat:=if 0≤i then (if i<n then some i.toNat else none) else if -(n:Int)≤i then some (i+n).toNat else none
noncomputable def atI {α:Type} (xs:List α) (i:Int):Option α:=(ixN xs.length i).bind fun j=>xs[j]?
theorem ixN_seq {n:Nat} {i:Int} {j:Nat} (h:ixN n i=some j):seqIndex? i n=some j∧j<n∧-(n:Int)≤i∧i<n:=by
  unfold ixN at h
  by_cases h0:0≤i
  · rw [if_pos h0] at h
    by_cases h1:i<n
    · rw [if_pos h1] at h
      have e:i.toNat=j:=Option.some.inj h
      exact ⟨by rw [seqIndex_of h0 h1,e],by omega,by omega,h1⟩
    · rw [if_neg h1] at h;cases h
  · rw [if_neg h0] at h
    by_cases h1 : -(n:Int)≤i
    · rw [if_pos h1] at h
      have e:(i+n).toNat=j:=Option.some.inj h
      exact ⟨by rw [seqIndex_neg (by omega) h1,e],by omega,h1,by omega⟩
    · rw [if_neg h1] at h;cases h
theorem atI_get {α:Type} {xs:List α} {i:Int} {v:α} (h:atI xs i=some v):∃ j,seqIndex? i xs.length=some j∧xs[j]?=some v∧j<xs.length∧-(xs.length:Int)≤i∧i<xs.length:=by
  unfold atI at h
  cases e:ixN xs.length i with
  | none=>rw [e] at h;cases h
  | some j =>
    rw [e] at h
    obtain ⟨h1,h2,h3,h4⟩:=ixN_seq e
    exact ⟨j,h1,h,h2,h3,h4⟩
theorem atI_nat {α:Type} {xs:List α} {j:Nat} {v:α} (h:xs[j]?=some v):atI xs (j:Int)=some v:=by
  have hj:j<xs.length:=(List.getElem?_eq_some_iff.mp h).1
  have e:ixN xs.length (j:Int)=some j:=by
    unfold ixN
    rw [if_pos (by omega),if_pos (by omega)];simp
  unfold atI;rw [e];exact h
theorem atI_last {α:Type} (xs:List α) (v:α):atI (xs++[v]) (-1)=some v:=by
  have hl:(xs++[v]).length=xs.length+1:=by simp
  have e:ixN (xs++[v]).length (-1)=some xs.length:=by
    unfold ixN
    rw [hl,if_neg (by decide),if_pos (by omega)]
    congr 1
    omega
  unfold atI
  rw [e]
  show (xs++[v])[xs.length]?=some v
  simp
noncomputable def PlainIx (b:Expr):Prop:=∀ o i,subscripted b false o i=operate [o,i] (getItem o i)
noncomputable def IxR (X:Cx) (r:R2):Prop :=
  ∀ (value slice:Expr) (pins:List (Addr×Obj)) (s:Shared) (σ:St) (H:Hp) (x y:V) (v u:Value) (Q:VK),Inv X pins σ H s→RelV x v→RelV y u→r x y H Q→
    subscripted slice false v u=operate [v,u] (getItem v u)→wpAny (model X.prog X.w) X.A (subscriptTail value slice v u) (EP X pins σ Q) X.xe s
noncomputable def MtR (X:Cx) (id:String) (r:V→List V→Hp→VK→Prop):Prop :=
  ∀ (pins:List (Addr×Obj)) (s:Shared) (σ:St) (H:Hp) (x:V) (xs:List V) (v:Value) (us:List Value) (Q:VK),Inv X pins σ H s→RelV x v→Vals xs us→r x xs H Q→
    wpAny (model X.prog X.w) X.A (call (.builtin id) (v::us)) (EP X pins σ Q) X.xe s
section
variable {X:Cx} {a b:Expr} {ta tb:TE} {pos:Pos}
theorem pe_ix {r:R2} (hr:IxR X r) (ha:PE X a ta) (hb:PE X b tb) (hs:PlainIx b):PE X (.Subscript a b pos) (tOp r ta tb):=by
  intro pins s σ H Q I h
  exact Subscript_ (binT ha hb I h fun v u s2 x y H2 I2 rx ry q=>hr a b pins s2 σ H2 x y v u Q I2 rx ry q (hs _ _))
noncomputable def rIxL (K:PySem.W.Frag):R2:=fun x y H Q=>∃ p xs i v,x=.ref p∧y=.int i∧SqL K H p xs∧atI xs i=some v∧Q v H
noncomputable def rIxT (K:PySem.W.Frag):R2:=fun x y H Q=>∃ p xs i v,x=.ref p∧y=.int i∧SqT K H p xs∧atI xs i=some v∧Q v H
theorem ix_list:IxR X (rIxL X.K):=by
  intro value slice pins s σ H x y v u Q I rx ry h hs
  obtain ⟨p,xs,i,z,rfl,rfl,hq,he,q⟩:=h
  cases rx
  obtain ⟨t,rfl⟩:=ry
  obtain ⟨its,r,pl,hz⟩:=I.list hq
  obtain ⟨j,h1,h2,h3,h4,h5⟩:=atI_get he
  obtain ⟨w,ew,rw'⟩:=r.get h2
  have hl:=r.length
  have hn:=line63
  have fin:EP X pins σ Q w s:=⟨z,H,I,rw',q⟩
  by_cases h0:0≤i
  · have hj:i.toNat=j:=by
      rw [seqIndex_of h0 h5] at h1
      exact Option.some.inj h1
    exact item_listR pl.isList h0 (by omega) (by rw [hj];simpa using ew) fin hs
  · have hj:(i+(its.toArray.size:Int)).toNat=j:=by
      rw [seqIndex_neg (by omega) h4] at h1
      rw [List.size_toArray,← hl]
      exact Option.some.inj h1
    exact subscriptTail_builtinR (x:=w) pl.isList.typeIs slot_list_getitem.lookup
      (wpAny_getItem_list_neg (Q:=fun r s'=>r=w∧EP X pins σ Q r s') pl.isList (by omega) (by rw [List.size_toArray] <;> omega) (by omega) (by rw [hj];simpa using ew) ⟨rfl,fin⟩) hs
theorem ix_tup:IxR X (rIxT X.K):=by
  intro value slice pins s σ H x y v u Q I rx ry h hs
  obtain ⟨p,xs,i,z,rfl,rfl,hq,he,q⟩:=h
  cases rx
  obtain ⟨t,rfl⟩:=ry
  obtain ⟨its,r,pl,hz⟩:=I.tuple hq
  obtain ⟨j,h1,h2,h3,h4,h5⟩:=atI_get he
  obtain ⟨w,ew,rw'⟩:=r.get h2
  have hl:=r.length
  have hn:=line63
  have fin:EP X pins σ Q w s:=⟨z,H,I,rw',q⟩
  exact subscriptTail_builtinR (x:=w) pl.typeIs slot_tuple_getitem.lookup
    (getItem_tuple (j:=j) (Q:=fun r s'=>r=w∧EP X pins σ Q r s') pl (by omega) (by omega) (by rw [List.size_toArray,← hl];exact h1) (by simpa using ew) ⟨rfl,fin⟩) hs
theorem mapSeq_set (its:List Value) (n j:Nat) (u:Value):Obj.mapSeq (·.setIfInBounds j u) {cls:=.type "list",data:=.seq its.toArray n}={cls:=.type "list",data:=.seq (its.set j u).toArray n}:=by
  simp [Obj.mapSeq]
theorem Inv.lst {pins:List (Addr×Obj)} {σ:St} {H:Hp} {s:Shared} {p:Addr} {xs:List V} (I:Inv X pins σ H s) (h:H p=some (.lst xs)) :
    ∃ (its:List Value) (n:Nat),Vals xs its∧s.heap.get? p=some {cls:=.type "list",data:=.seq its.toArray n}∧xs.length≤sizeLine:=by
  obtain ⟨z,its,n,r,e⟩:=I.hok p _ h
  exact ⟨its,n,r,e,z⟩
theorem Inv.lstUpd {pins:List (Addr×Obj)} {σ:St} {H:Hp} {s:Shared} {p:Addr} {xs ys:List V} {its its':List Value} {n n':Nat} {f:Obj→Obj} (I:Inv X pins σ H s) (h:H p=some (.lst xs))
    (ho:s.heap.get? p=some {cls:=.type "list",data:=.seq its.toArray n}) (hf:f {cls:=.type "list",data:=.seq its.toArray n}={cls:=.type "list",data:=.seq its'.toArray n'}) (r:Vals ys its') (hz:ys.length≤sizeLine) (t:Nat) :
    Inv X pins σ (upd H p (.lst ys)) {s with heap:=s.heap.update p f,toks:=t}:=by
  have e:(s.heap.update p f).get? p=some {cls:=.type "list",data:=.seq its'.toArray n'}:=by
    rw [Heap.get?_update_self f ho (by rw [hf] <;> rfl),hf]
  refine I.write (x:=p) (e:=p) (by rw [h];trivial) (.inl rfl) (fun b u hb q=>(Heap.get?_update_other _ _ (Ne.symm hb)).trans q) ⟨_,e⟩ ?_
  exact ⟨hz,its',n',r,e⟩
noncomputable def rSetL:V→V→V→Hp→(Hp→Prop)→Prop:=fun o i v H Q=>∃ p xs k j,o=.ref p∧i=.int k∧H p=some (.lst xs)∧ixN xs.length k=some j∧Q (upd H p (.lst (xs.set j v)))
theorem set_list:PSet X rSetL:=by
  intro pins s σ H o i v ov iv u Q I ro ri rv h
  obtain ⟨p,xs,k,j,rfl,rfl,hp,hj,q⟩:=h
  cases ro
  obtain ⟨t,rfl⟩:=ri
  obtain ⟨its,n,r,ho,hz⟩:=I.lst hp
  obtain ⟨h1,h2,h3,h4⟩:=ixN_seq hj
  have hl:=r.length
  have hn:=line63
  have I':Inv X pins σ (upd H p (.lst (xs.set j v))) {s with heap:=s.heap.update p (Obj.mapSeq (·.setIfInBounds j u))} :=
    I.lstUpd hp ho (mapSeq_set its n j u) (r.set rv j) (by rw [List.length_set];exact hz) s.toks
  by_cases h0:0≤k
  · have hk:k.toNat=j:=by
      rw [seqIndex_of h0 h4] at h1
      exact Option.some.inj h1
    exact PySem.W.ki_setAt ho h0 (by omega) (by rw [List.size_toArray,← hl];exact h4) (by rw [hk];exact ⟨_,I',q⟩)
  · have hk:(k+(its.toArray.size:Int)).toNat=j:=by
      rw [seqIndex_neg (by omega) h3] at h1
      rw [List.size_toArray,← hl]
      exact Option.some.inj h1
    exact PySem.W.ki_setBack ho (by omega) (by rw [List.size_toArray,← hl];exact h3) (by omega) (by rw [hk];exact ⟨_,I',q⟩)
theorem slice_bounds (lo hi:Option Int) (n:Nat):(sliceBounds lo hi none n).1=((HT.sIx n 0 lo:Nat):Int)∧(sliceBounds lo hi none n).2.1=((HT.sIx n n hi:Nat):Int)∧(sliceBounds lo hi none n).2.2=1:=by
  refine ⟨?_,?_,rfl⟩
  · cases lo with
    | none=>simp [sliceBounds,HT.sIx]
    | some i =>
      simp only [sliceBounds,HT.sIx,Option.getD_none,show (1:Int)>0 by decide,if_true]
      by_cases h:i<0
      · simp only [h,if_true] <;> omega
      · simp only [h,if_false] <;> omega
  · cases hi with
    | none=>simp [sliceBounds,HT.sIx]
    | some i =>
      simp only [sliceBounds,HT.sIx,Option.getD_none,show (1:Int)>0 by decide,if_true]
      by_cases h:i<0
      · simp only [h,if_true] <;> omega
      · simp only [h,if_false] <;> omega
theorem slicePick_cut (its:List Value) (lo hi:Option Int):slicePick its.toArray lo hi none=((its.drop (HT.sIx its.length 0 lo)).take (HT.sIx its.length its.length hi - HT.sIx its.length 0 lo)).toArray:=by
  obtain ⟨h1,h2,h3⟩:=slice_bounds lo hi its.toArray.size
  unfold slicePick
  rw [h1,h2,h3]
  simp only [sliceRange_one,pick_run,List.size_toArray] <;> rfl
noncomputable def rSlL (K:PySem.W.Frag):V→Option Int→Option Int→Hp→VK→Prop:=fun x lo hi H Q=>∃ a xs,x=.ref a∧SqL K H a xs∧∀ p,H p=none→Q (.ref p) (upd H p (.lst (cutV xs lo hi)))
theorem sl_list:SlR X (rSlL X.K):=by
  intro pins s σ H x v vl vu lo hi sl Q I rx hs pl pu h
  obtain ⟨a,xs,rfl,hx,q⟩:=h
  cases rx
  obtain ⟨its,r,ht,hz⟩:=I.list hx
  have hlen:=r.length
  refine ⟨"list",_,slot_list_getitem.lookup,ht.isList.typeIs,?_⟩
  refine wpAny_getItem_list_slice ht.isList hs pl pu .none (by simp) ?_ (by rw [List.size_toArray] <;> omega)
  rw [slicePick_cut,← hlen]
  refine ⟨.ref s.heap.objs.size,_,I.laid (t':=s.toks) (o:=.lst (cutV xs lo hi)) (fun b ob q=>Heap.get?_push_of_some _ q) (Nat.le_refl _) ?_,rfl,q _ (I.hok.fresh (Nat.le_refl _))⟩
  exact ⟨Nat.le_trans (cutV_length xs lo hi) hz,_,0,(r.drop (HT.sIx xs.length 0 lo)).take (HT.sIx xs.length xs.length hi - HT.sIx xs.length 0 lo),Heap.get?_push_size _ rfl⟩
theorem call_len_seq:CallR X (.builtin "len") (fun xs H Q=>∃ p ys,xs=[.ref p]∧(SqL X.K H p ys∨SqT X.K H p ys)∧Q (.int ys.length) H):=by
  intro pins s σ H xs us Q I r h
  obtain ⟨p,ys,rfl,hq,q⟩:=h
  obtain ⟨u,rfl,rx⟩:=vals1 r
  cases rx
  have hn:=line63
  rcases hq with hq | hq
  · obtain ⟨its,r',pl,hz⟩:=I.list hq
    have hlen:=r'.length
    exact Calls.call_len_list pl.isList (by simp only [List.size_toArray] <;> omega) ⟨.int ys.length,H,I.tok _,⟨s.toks+1,by rw [List.size_toArray,hlen]⟩,q⟩
  · obtain ⟨its,r',pl,hz⟩:=I.tuple hq
    have hlen:=r'.length
    exact len_tuple pl (by simp only [List.size_toArray] <;> omega) ⟨.int ys.length,H,I.tok _,⟨s.toks+1,by rw [List.size_toArray,hlen]⟩,q⟩
theorem call_list_of:CallR X (.type "list") (fun xs H Q=>∃ p ys,xs=[.ref p]∧(SqL X.K H p ys∨SqT X.K H p ys)∧∀ l,H l=none→Q (.ref l) (upd H l (.lst ys))):=by
  intro pins s σ H xs us Q I r h
  obtain ⟨p,ys,rfl,hq,q⟩:=h
  obtain ⟨u,rfl,rx⟩:=vals1 r
  cases rx
  have fin:∀ (its:List Value),Vals ys its→ys.length≤sizeLine→∀ (h':Heap) (c':Nat),(∀ b o',s.heap.get? b=some o'→h'.get? b=some o')→
      h'.get? s.heap.objs.size=some {cls:=.type "list",dict:=none,data:=.seq its.toArray c',slots:=#[]}→EP X pins σ Q (.ref s.heap.objs.size) {s with heap:=h'}:=fun its r' hz h' c' kp e =>
    ⟨.ref s.heap.objs.size,_,I.laid (t':=s.toks) kp (Nat.le_refl _) (show ObjOk X.prog X.w _ h' _ (.lst ys) from ⟨hz,its,c',r',e⟩),rfl,q _ (I.hok.fresh (Nat.le_refl _))⟩
  rcases hq with hq | hq
  · obtain ⟨its,r',pl,hz⟩:=I.list hq
    have hlen:=r'.length
    obtain ⟨o,ho,hc,n,hd⟩:=pl.isList
    exact call_list_seq p (.inl rfl) ho hc hd (fun h' c' kp e=>fin its r' hz h' c' kp e) (by simp only [List.size_toArray] <;> omega)
  · obtain ⟨its,r',pl,hz⟩:=I.tuple hq
    have hlen:=r'.length
    obtain ⟨o,ho,hc,n,hd⟩:=pl
    exact call_list_seq p (.inr rfl) ho hc hd (fun h' c' kp e=>fin its r' hz h' c' kp e) (by simp only [List.size_toArray] <;> omega)
noncomputable def tyV (K:PySem.W.Frag) (T:String) (x:V) (H:Hp):Prop:=match x with
  | .str _=>T="str"
  | .int _=>T="int"
  | .ref p=>(T="list"∧∃ xs,SqL K H p xs)∨(T="tuple"∧∃ o,K.lookup p=some o∧o.cls=.type "tuple"∧o.dict=none)∨
      (T="dict"∧((∃ kvs,H p=some (.dK kvs))∨∃ kvs,H p=some (.dT kvs)))∨(T="set"∧∃ S n,H p=some (.set S n))
  | _=>False
theorem tyV_is {pins:List (Addr×Obj)} {σ:St} {H:Hp} {s:Shared} {T:String} {x:V} {v:Value} (I:Inv X pins σ H s) (r:RelV x v) (ty:tyV X.K T x H) :
    s.TypeIs v T∧∀ a,v=.ref a→∃ ob,s.heap.get? a=some ob∧ob.dict=none:=by
  cases x with
  | str z =>
    obtain ⟨t,rfl⟩:=r
    cases (show T="str" from ty)
    exact ⟨typeIs_str s z t,fun _ e=>nomatch e⟩
  | int i =>
    obtain ⟨t,rfl⟩:=r
    cases (show T="int" from ty)
    exact ⟨typeIs_int s i t,fun _ e=>nomatch e⟩
  | ref p =>
    cases r
    rcases ty with ⟨rfl,xs,hq⟩ | ⟨rfl,o,hk,hc,hd⟩ | ⟨rfl,hk⟩ | ⟨rfl,S,n,hk⟩
    · obtain ⟨its,_,pl,_⟩:=I.list hq
      refine ⟨pl.isList.typeIs,fun a e=>?_⟩
      cases e
      obtain ⟨o,n,e,c,hd,_⟩:=pl
      exact ⟨o,e,hd⟩
    · refine ⟨⟨o,I.kIn p o hk,hc⟩,fun a e=>?_⟩
      cases e
      exact ⟨o,I.kIn _ o hk,hd⟩
    · have z:∃ o,s.heap.get? p=some o∧o.ExactDict:=by
        rcases hk with ⟨kvs,hk⟩ | ⟨kvs,hk⟩
        · obtain ⟨_,_,_,_,o,_,_,e,ex,_⟩:=I.hok p _ hk
          exact ⟨o,e,ex⟩
        · obtain ⟨_,_,_,_,o,_,_,e,ex,_⟩:=I.hok p _ hk
          exact ⟨o,e,ex⟩
      obtain ⟨o,e,ex⟩:=z
      refine ⟨⟨o,e,ex.1⟩,fun a e2=>?_⟩
      cases e2
      exact ⟨o,e,ex.2.1⟩
    · obtain ⟨o,_,_,_,e,ex,_⟩:=I.hok p _ hk
      refine ⟨⟨o,e,ex.1⟩,fun a e2=>?_⟩
      cases e2
      exact ⟨o,e,ex.2.1⟩
  | _=>exact False.elim ty
noncomputable def tBM0 (K:PySem.W.Frag) (T:String) (r:V→List V→Hp→VK→Prop) (to:TE):TE:=fun σ H Q=>to σ H fun x H1=>tyV K T x H1∧r x [] H1 Q
noncomputable def tBM (K:PySem.W.Frag) (T:String) (r:V→List V→Hp→VK→Prop) (to:TE) (t:TA):TE:=fun σ H Q=>to σ H fun x H1=>tyV K T x H1∧t σ H1 fun xs H2=>r x xs H2 Q
variable {o e:Expr} {es:List Expr} {to:TE} {t:TA} {name:Str} {apos cpos:Pos} {T id:String} {r:V→List V→Hp→VK→Prop}
theorem pe_bm0 (pa:PlainAttrs T) (slot:Slot T name id) (hty:typeOf (.builtin id)=pure (.type "method_descriptor")) (hm:MtR X id r) (ho:PE X o to)
    (hbase:attributeBase o name X.env (eval o X.env)=eval o X.env:=by rfl) (hline:(apos.endLine==cpos.line)=true:=by rfl):PE X (.Call (.Attribute o name apos) [] [] cpos) (tBM0 X.K T r to):=by
  intro pins s σ H Q I h
  refine wpAny_Call_method0_late hbase hline (thn (ho pins s σ H _ I h) fun v s1 ⟨x,H1,I1,r1,ty,q1⟩=>?_)
  obtain ⟨h1,h2⟩:=tyV_is I1 r1 ty
  exact ⟨T,id,pa,slot,hty,h1,h2,Calls.callWith_builtin rfl (PySem.evalArgs_none (hm pins s1 σ H1 x [] v [] Q I1 r1 .nil q1))⟩
theorem pe_bm (pa:PlainAttrs T) (slot:Slot T name id) (hty:typeOf (.builtin id)=pure (.type "method_descriptor")) (hm:MtR X id r) (ho:PE X o to) (ha:PA X (e::es) t)
    (hbase:attributeBase o name X.env (eval o X.env)=eval o X.env:=by rfl)
    (hfew:((backTo cpos (starEach (e::es) X.env)).all (fun x=>!x.1)&&(backToKw cpos (keywordEach [] X.env)).all (fun x=>x.1.isSome)
      && decide ((e::es).length+([]:List Keyword).length+(if ([]:List Keyword).isEmpty then 0 else 1)<30))=true:=by rfl)
    (hline:(apos.endLine==cpos.line)=true:=by rfl) (hs:starEach (e::es) X.env=(false,eval e X.env)::starEach es X.env:=by rfl) (hplain:(backTo cpos (starEach es X.env)).any (·.1)=false:=by rfl) :
    PE X (.Call (.Attribute o name apos) (e::es) [] cpos) (tBM X.K T r to t):=by
  intro pins s σ H Q I h
  refine wpAny_Call_method_late hbase hfew hline rfl (thn (ho pins s σ H _ I h) fun v s1 ⟨x,H1,I1,r1,ty,q1⟩=>?_)
  obtain ⟨h1,h2⟩:=tyV_is I1 r1 ty
  refine ⟨T,id,pa,slot,hty,h1,h2,?_⟩
  have hA:=ha cpos pins s1 σ H1 _ I1 q1
  rw [hs] at hA⊢
  refine Calls.callWith_builtin (by show (false || (backTo cpos (starEach es X.env)).any (·.1))=false;rw [hplain] <;> rfl) (Calls.evalArgs_plain ?_)
  exact thn hA fun us s2 ⟨vs,H2,I2,r2,q2⟩=>hm pins s2 σ H2 x vs v us Q I2 r1 r2 q2
/- xs.append(e), list.index on a module's tuple .. are MtR facts of 06m -/
end
end L2
namespace L2
open PySem PySem.Spec PyProof.Rows
noncomputable def MtM (X:Cx) (id:String) (r:V→List V→Hp→VK→Prop):Prop :=
  ∀ (pins:List (Addr×Obj)) (s:Shared) (σ:St) (H:Hp) (x:V) (xs:List V) (v:Value) (us:List Value) (Q:VK),Inv X pins σ H s→RelV x v→Vals xs us→r x xs H Q→
    wpAny (model X.prog X.w) X.A (call (.builtin id) (v::us)) (EP X pins σ Q) X.xe s
theorem Vals.one:∀ {x:V} {us:List Value},Vals [x] us→∃ u,us=[u]∧RelV x u
  | _,_,.cons r .nil=>⟨_,rfl,r⟩
theorem Vals.two:∀ {x y:V} {us:List Value},Vals [x,y] us→∃ u v,us=[u,v]∧RelV x u∧RelV y v
  | _,_,_,.cons r (.cons q .nil)=>⟨_,_,rfl,r,q⟩
theorem Vals.zero:∀ {us:List Value},Vals [] us→us=[]
  | _,.nil=>rfl
theorem Vals.dropLast {xs:List V} {us:List Value} (h:Vals xs us):Vals xs.dropLast us.dropLast:=by
  induction h with
  | nil=>exact .nil
  | cons r t ih =>
    cases t with
    | nil=>exact .nil
    | cons q t'=>exact .cons r ih
theorem Vals.reverse {xs:List V} {us:List Value} (h:Vals xs us):Vals xs.reverse us.reverse:=by
  induction h with
  | nil=>exact .nil
  | cons r t ih=>rw [List.reverse_cons,List.reverse_cons];exact Vals.append ih (.cons r .nil)
theorem Vals.rep {xs:List V} {us:List Value} (h:Vals xs us):∀ k:Nat,Vals (List.replicate k xs).flatten (List.replicate k us).flatten
  | 0=>.nil
  | k+1=>by
    rw [List.replicate_succ,List.replicate_succ,List.flatten_cons,List.flatten_cons]
    exact Vals.append h (Vals.rep h k)
theorem erase_last {α:Type} (l:List α):l.eraseIdx (l.length - 1)=l.dropLast:=by
  induction l with
  | nil=>rfl
  | cons a r ih =>
    cases r with
    | nil=>rfl
    | cons b r =>
      have e:(a::b::r).length - 1=((b::r).length - 1)+1:=by
        have h1:(a::b::r).length=r.length+2:=rfl
        have h2:(b::r).length=r.length+1:=rfl
        omega
      rw [e,List.eraseIdx_cons_succ,ih]
      all_goals rfl
theorem foldl_rep (its:List Value):∀ (k:Nat) (acc:List Value),
    List.foldl (fun x1 x2=>x1++x2) acc.toArray (List.replicate k its.toArray)=(acc++(List.replicate k its).flatten).toArray
  | 0,acc=>by simp
  | k+1,acc=>by
    have e:acc.toArray++its.toArray=(acc++its).toArray:=by simp
    have e2:(acc++its)++(List.replicate k its).flatten=acc++(List.replicate (k+1) its).flatten:=by
      rw [List.replicate_succ,List.flatten_cons,List.append_assoc]
    rw [← e2,← foldl_rep its k (acc++its),← e,List.replicate_succ,List.foldl_cons]
section
variable {X:Cx} {pins:List (Addr×Obj)} {σ:St} {H:Hp} {s:Shared} {l b:Addr} {xs ys zs:List V}
theorem Inv.lset {its its':List Value} {n:Nat} {f:Array Value→Array Value} {t':Nat} (I:Inv X pins σ H s) (hH:H l=some (.lst xs))
    (e:s.heap.get? l=some {cls:=.type "list",data:=.seq its.toArray n}) (hf:f its.toArray=its'.toArray) (hv:Vals ys its') (hz:ys.length≤sizeLine) :
    Inv X pins σ (upd H l (.lst ys)) {s with heap:=s.heap.update l (Obj.mapSeq f),toks:=t'}:=by
  have q:=PySem.IsL.update e f
  rw [hf] at q
  refine I.write (x:=l) (e:=l) (by rw [hH];exact trivial) (.inl rfl) (fun b' u hb hu=>(Heap.get?_update_other s.heap (Obj.mapSeq f) (Ne.symm hb)).trans hu) ⟨_,q⟩ ?_
  exact ⟨hz,its',_,hv,q⟩
theorem Inv.lnew {its:List Value} {t':Nat} (I:Inv X pins σ H s) (hv:Vals ys its) (hz:ys.length≤sizeLine) :
    Inv X pins σ (upd H s.heap.objs.size (.lst ys)) {s with heap:=s.heap.push {cls:=.type "list",data:=.seq its.toArray},toks:=t'} :=
  I.laid (fun _ _ q=>Heap.get?_push_of_some _ q) (Nat.le_refl _) ⟨hz,its,0,hv,Heap.get?_push_size _ rfl⟩
theorem Inv.fresh (I:Inv X pins σ H s):H s.heap.objs.size=none:=I.hok.fresh (Nat.le_refl _)
theorem Inv.lstM (I:Inv X pins σ H s) (hH:H l=some (.lst xs)):xs.length≤sizeLine∧∃ (its:List Value) (n:Nat),Vals xs its∧xs.length=its.length∧s.heap.get? l=some {cls:=.type "list",data:=.seq its.toArray n}:=by
  obtain ⟨z,its,n,r,e⟩:=I.hok l _ hH
  exact ⟨z,its,n,r,r.length,e⟩
theorem notLongL {n:Nat} (h:n≤sizeLine):Builtin.List.listTooLong n=false:=by
  unfold Builtin.List.listTooLong
  exact decide_eq_false (by omega)
end
section
variable {X:Cx}
noncomputable def rAppend:V→List V→Hp→VK→Prop:=fun x vs H Q=>∃ l xs y,x=.ref l∧vs=[y]∧H l=some (.lst xs)∧xs.length<sizeLine∧Q .non (upd H l (.lst (xs++[y])))
theorem mt_append:MtM X "list.append" rAppend:=by
  intro pins s σ H x vs v us Q I rx rv h
  obtain ⟨l,xs,y,rfl,rfl,hH,hz,q⟩:=h
  cases rx
  obtain ⟨u,rfl,ru⟩:=rv.one
  obtain ⟨z,its,n,r,hl,e⟩:=I.lstM hH
  refine call_meets F.slot_list_append ⟨_,e,rfl⟩ F.entry_list_append (F.args_list_append_2 _ _) (PySem.list_append l its.toArray n u (by rw [List.size_toArray];omega)) ⟨e,?_⟩
  refine ⟨.non,_,I.lset (its':=its++[u]) hH e (by simp) (r.append (.cons ru .nil)) ?_,rfl,q⟩
  rw [List.length_append,List.length_singleton]
  omega
noncomputable def rExtend:V→List V→Hp→VK→Prop:=fun x vs H Q=>∃ l b xs zs,x=.ref l∧vs=[.ref b]∧H l=some (.lst xs)∧H b=some (.lst zs)∧xs.length+zs.length≤sizeLine∧Q .non (upd H l (.lst (xs++zs)))
theorem mt_extend:MtM X "list.extend" rExtend:=by
  intro pins s σ H x vs v us Q I rx rv h
  obtain ⟨l,b,xs,zs,rfl,rfl,hH,hB,hz,q⟩:=h
  cases rx
  obtain ⟨u,rfl,ru⟩:=rv.one
  cases ru
  obtain ⟨z,its,n,r,hl,e⟩:=I.lstM hH
  obtain ⟨z2,its2,n2,r2,hl2,e2⟩:=I.lstM hB
  have hsz:its.toArray.size+its2.toArray.size≤sizeLine:=by rw [List.size_toArray,List.size_toArray];omega
  have hlong:¬ (!its.toArray.isEmpty&&Builtin.List.listTooLong (its.toArray.size+its2.toArray.size))=true:=by
    rw [notLongL hsz,Bool.and_false]
    exact Bool.false_ne_true
  refine call_meets F.slot_list_extend ⟨_,e,rfl⟩ F.entry_list_extend (F.args_list_extend_2 _ _)
    (AutoSeq1.list_extend_list_list_0 l its.toArray n b its2.toArray n2 hlong (by rw [List.size_toArray];omega) (by omega)) ⟨e,e2,?_⟩
  refine ⟨.non,_,I.lset (its':=its++its2) hH e (by simp) (r.append r2) ?_,rfl,q⟩
  rw [List.length_append]
  omega
noncomputable def rPop:V→List V→Hp→VK→Prop:=fun x vs H Q=>∃ l xs y,x=.ref l∧vs=[]∧H l=some (.lst xs)∧xs[xs.length - 1]?=some y∧Q y (upd H l (.lst xs.dropLast))
theorem mt_pop:MtM X "list.pop" rPop:=by
  intro pins s σ H x vs v us Q I rx rv h
  obtain ⟨l,xs,y,rfl,rfl,hH,hy,q⟩:=h
  cases rx
  have hus:=rv.zero
  subst hus
  obtain ⟨z,its,n,r,hl,e⟩:=I.lstM hH
  obtain ⟨u,hu,ru⟩:=r.get hy
  have hy':its.toArray[its.toArray.size - 1]?=some u:=by
    show its.toArray[its.length - 1]?=some u
    rw [← Array.getElem?_toList,← hl]
    exact hu
  refine call_meets F.slot_list_pop ⟨_,e,rfl⟩ F.entry_list_pop (F.args_list_pop_1 _) (MeetsSeq.list_pop_last l its.toArray n u hy' (by rw [List.size_toArray];omega)) ⟨e,?_⟩
  refine ⟨y,_,I.lset (its':=its.dropLast) hH e ?_ r.dropLast ?_,ru,q⟩
  · show its.toArray.eraseIdxIfInBounds (its.toArray.size - 1)=its.dropLast.toArray
    rw [List.size_toArray,List.eraseIdxIfInBounds_toArray,erase_last]
  · rw [List.length_dropLast]
    omega
noncomputable def rCat:R2:=fun x y H Q=>∃ l b xs zs,x=.ref l∧y=.ref b∧H l=some (.lst xs)∧H b=some (.lst zs)∧xs.length+zs.length≤sizeLine∧∀ p,H p=none→Q (.ref p) (upd H p (.lst (xs++zs)))
theorem op_cat:OpR X (binaryOp .Add) rCat:=by
  intro pins s σ H x y v u Q I rx ry h
  obtain ⟨l,b,xs,zs,rfl,rfl,hH,hB,hz,q⟩:=h
  cases rx
  cases ry
  obtain ⟨z,its,n,r,hl,e⟩:=I.lstM hH
  obtain ⟨z2,its2,n2,r2,hl2,e2⟩:=I.lstM hB
  refine PySem.P.add_list e e2 ?_ (by rw [List.size_toArray,List.size_toArray];omega)
  have ea:its.toArray++its2.toArray=(its++its2).toArray:=by simp
  rw [ea]
  exact ⟨.ref _,_,I.lnew (t':=s.toks) (r.append r2) (by rw [List.length_append];omega),rfl,q _ I.fresh⟩
noncomputable def rRep:R2:=fun x y H Q=>∃ l k xs,x=.ref l∧y=.int k∧H l=some (.lst xs)∧-(2 ^ 63)≤k∧k<2 ^ 63∧xs.length*k.toNat≤sizeLine∧
  ∀ p,H p=none→Q (.ref p) (upd H p (.lst (List.replicate k.toNat xs).flatten))
theorem len_rep {α:Type} (xs:List α) (k:Nat):(List.replicate k xs).flatten.length=k*xs.length:=by
  induction k with
  | zero=>simp
  | succ k ih=>rw [List.replicate_succ,List.flatten_cons,List.length_append,ih,Nat.succ_mul,Nat.add_comm]
theorem op_rep:OpR X (binaryOp .Mult) rRep:=by
  intro pins s σ H x y v u Q I rx ry h
  obtain ⟨l,k,xs,rfl,rfl,hH,h1,h2,hz,q⟩:=h
  cases rx
  obtain ⟨t,rfl⟩:=ry
  obtain ⟨z,its,n,r,hl,e⟩:=I.lstM hH
  have hlen:its.toArray.size*k.toNat≤sizeLine:=by rw [List.size_toArray,← hl];exact hz
  have hcap:¬ its.toArray.size*k.toNat>(2 ^ 63 - 1) / 8:=by
    have:(sizeLine:Nat)≤(2 ^ 63 - 1) / 8:=by decide
    omega
  have hfit:¬ (!Builtin.List.listFitsIndex k)=true:=by
    rw [fitsIndex_both h1 h2]
    exact Bool.false_ne_true
  have hlong:¬ Builtin.List.listTooLong (its.toArray.size*k.toNat)=true:=by
    rw [notLongL hlen]
    exact Bool.false_ne_true
  have hnew:List.foldl (fun x1 x2=>x1++x2) #[] (List.replicate (if its.toArray.isEmpty=true then 0 else k.toNat) its.toArray)=(List.replicate k.toNat its).flatten.toArray:=by
    have f0:∀ m:Nat,List.foldl (fun x1 x2=>x1++x2) #[] (List.replicate m its.toArray)=(List.replicate m its).flatten.toArray:=fun m=>by
      have:=foldl_rep its m []
      rw [List.nil_append] at this
      exact this
    rw [f0]
    cases its with
    | nil=>simp
    | cons a r'=>rw [if_neg (by simp)]
  refine wpAny_binaryOp_repeat_ref (T:="list") (U:="int") (by decide) ⟨_,e,rfl⟩ (fun s'=>typeIs_int s' k t) noFill_list_mul F.fills_int_mul F.slot_int_rmul repeat_list F.slot_int_index.lookup
    (call_meets F.slot_int_rmul (typeIs_int s k t) F.entry_int_rmul (F.args_int_rmul_2 _ _) (int___rmul___int_list k t l its.toArray n)
      ⟨e,rfl,⟨_,e,rfl⟩,call_meets F.slot_list_mul ⟨_,e,rfl⟩ F.entry_list_mul (F.args_list_mul_2 _ _) (AutoListH.list___mul___list_int_3 l its.toArray n k t hfit hcap hlong) ⟨e,?_⟩⟩)
  rw [hnew]
  exact ⟨.ref _,_,I.lnew (t':=s.toks) (r.rep k.toNat) (by rw [len_rep,Nat.mul_comm];exact hz),rfl,q _ I.fresh⟩
end
section
variable {prog:Program} {w:World} {A:Around} {E:Value→Shared→Prop} {s:Shared}
end
section
variable {X:Cx}
end
end L2
namespace Att
open PySem PySem.W PySem.Calls PyProof.Rows
theorem ints_of_wellAll {P:Params} {h:Heap}:∀ (ns:List Int) (vs:List Value),WellAll P h vs (ns.map WData.int)→IntsAre vs ns:=by
  intro ns
  induction ns with
  | nil =>
    intro vs w
    rw [List.map_nil] at w
    cases w
    exact .nil
  | cons n ns ih =>
    intro vs w
    rw [List.map_cons] at w
    cases w with
    | cons a b =>
      cases a
      exact .cons _ _ (ih _ b)
theorem script_of {l:OpenLaw} {n:Nat} (hn:l.most=some n) {P:Params} {h:Heap} {args:List WData} {vals:List Value}
    (hpre:l.row.toRowW.claim.pre args=true) (hwl:WellAll P h vals args) :
    ∃ a vs ns,vals=[Value.ref a]∧args=[WData.list (ns.map WData.int)]∧h.get? a=some {cls:=.type "list",data:=.seq vs.toArray}∧IntsAre vs ns∧ns.length≤n:=by
  have hsh:WShape.hasAll [] args [.list .int]=true:=(pre_splitW hpre).1
  have hc:l.pre.holds [] {args:=args}=true:=(pre_splitW hpre).2
  obtain ⟨d,r,rfl,h1,h2⟩:=hasAllW_cons hsh
  obtain rfl:=hasAllW_nil h2
  obtain ⟨xs,rfl,h3⟩:=hasW_list h1
  obtain ⟨ns,rfl⟩:=items_int h3
  have hlen:ns.length≤n:=by
    unfold OpenLaw.pre at hc
    have h4:(WTm.not (.lt (.lit (.int (n:Int))) (.len (.arg 0)))).holds [] {args:=[.list (ns.map .int)]}=true:=by
      have h4:=(holds_andW hc).1
      rw [hn] at h4
      exact h4
    have h5:=condW_of h4 (w_not (w_lt w_lit (w_len_list (w_arg rfl))))
    rw [List.length_map] at h5
    refine Nat.le_of_not_lt fun q=>?_
    have q':(n:Int)<((ns.length:Nat):Int):=by omega
    first
      | (rw [decide_eq_true q'] at h5;exact absurd h5 (by decide))
      | (simp at h5;omega)
  cases hwl with
  | cons w1 w2 =>
    cases w2
    cases w1 with
    | list ho hall=>exact ⟨_,_,ns,rfl,rfl,ho,ints_of_wellAll ns _ hall,hlen⟩
theorem post_true (l:OpenLaw) (args:List WData):l.row.toRowW.claim.post args (.bool true) args=true :=
  postW_of (r:=l.row.toRowW) (X:=(true==true))
    (show WShape.has [] (.bool true) .bool=true by first | rfl | decide | simp [WShape.has,WShape.arms,WShape.armsAll])
    (show (WTm.eq .res (.lit (.bool true))).value [] {args:=args,res:=some (.bool true),after:=args}=some (.bool (true==true)) from w_eq_bool (w_res rfl) w_lit) rfl
theorem attach_call {l:OpenLaw} {n:Nat} {q:Program} {loose:List Str} {XP:(Str→Option Value)→Heap→Prop} {YP:World→Heap→Prop} {d:DefRec}
    (hn:l.most=some n) (hdf:d.params.defaults=[])
    (call:∀ (w:World) (s₀ s₁:Shared) (mg mb:Str→Option Value) (fa:Addr) (o:Obj) (pm cd doc:Value) (a:Addr) (vs:List Value) (ns:List Int),
      Ground q loose [] XP w s₀ mg mb s₁.heap→YP w s₁.heap→
      s₁.heap.get? fa=some o→o.data=.func (docDef d.name d.params d.body d.scope pm cd doc)→s₁.heap.CodeRec cd d.name→mg d.name=some (.ref fa)→
      s₁.heap.get? a=some {cls:=.type "list",data:=.seq vs.toArray}→IntsAre vs ns→ns.length≤n→s₁.gens=#[]→
      codeAny (model l.prog w) callerA (.call (.ref fa) ⟨[.ref a],[]⟩) (fun r s'=>r=.ok (.ret (.bool true))∧OldK s₁.heap s'.heap∧s'.os=s₁.os∧AllBare s'.gens) s₁) :
    WalkO q loose XP YP l.row.toRowW d [] (fun f vs=>PySem.call f vs):=by
  intro w s₀ s₁ mg mb G Y fa o pm cd doc dV kV ho hd hcd hD hmg hg args vals as hpre hlay hrd hwl hlo
  obtain rfl:dV=.none:=Dflts.none hD hdf
  obtain rfl:kV=.none:=Dflts.noKw hD
  obtain ⟨a,vs,ns,rfl,rfl,hobj,hints,hlen⟩:=script_of hn hpre hwl
  refine enter_call (codeAny_mono (call w s₀ s₁ mg mb fa o pm cd doc a vs ns G Y ho (fd_plain hd) hcd hmg hobj hints hlen hg) fun r s' hq=>?_)
  obtain ⟨rfl,h2,h3,h4⟩:=hq
  exact ⟨.inl ⟨.bool true,.bool true,[],rfl,fun _=>rfl,.bool true,post_true l _,fun _=>⟨List.Pairwise.nil,fun _ hm=>(nomatch hm)⟩⟩,h2,h3,h4⟩
section
variable {prog:Program} {w:World} {A:Around} {E:Value→Shared→Prop} {s:Shared} {K:Frag}
noncomputable def ledger (h:Heap) (L d:Addr):List (Addr×Obj):=(List.range h.objs.size).filterMap fun a=>if a=L∨a=d then none else (h.get? a).map fun o=>(a,o)
end
end Att
namespace L2
open PySem PySem.Spec PyProof.Rows
theorem vals_ints {vs:List Value} {ns:List Int} (h:IntsAre vs ns):Vals (ns.map V.int) vs:=by
  induction h with
  | nil=>exact .nil
  | cons n t _ ih=>exact .cons ⟨t,rfl⟩ ih
noncomputable def Only (H:Hp):Prop:=∀ b,H b=none∨∃ o xs,H b=some (.frz o (.lst xs))
theorem law_call {P:Program} {w:World} {K:PySem.W.Frag} {mg mb:Str→Option Value} {CX:CXT} {k:Nat} {fa a:Addr} {fd:FuncData} {x:Str} {sp:Sp} {s₁:Shared} {vs:List Value} {ns:List Int}
    (KX:K.In s₁.heap) (hns:s₁.heap.Ns mainGlobals mg) (hb:s₁.heap.Ns builtinsNs mb) (hbb:∀ x:Str,x≠"__name__"→mb x=bootBuiltins x) (hlim:s₁.heap.NoLimit) (hg:s₁.gens=#[])
    (ha:s₁.heap.get? a=some {cls:=.type "list",data:=.seq vs.toArray}) (hi:IntsAre vs ns) (hl:ns.length≤sizeLine) (hr:Room k callerA)
    (F:∀ base:Heap,K.In base→base.Ns mainGlobals mg→FnOk P w K mg base CX k fa fd [x] sp) (hbind:∀ (s:Shared) (u:Value),BindsTo s fd ⟨[u],[]⟩ [(x,u)])
    (hsp:∀ H:Hp,Only H→SqL K H a (ns.map V.int)→sp [.ref a] H (fun v _=>v=.bl true) fun _ _ _=>False)
    (hCX:∀ H e s',CX [] H s₁ (fun _ _ _=>False) e s'→False) :
    codeAny (model P w) callerA (.call (.ref fa) ⟨[.ref a],[]⟩) (fun r s'=>r=.ok (.ret (.bool true))∧OldK s₁.heap s'.heap∧s'.os=s₁.os∧AllBare s'.gens) s₁:=by
  have rv:=vals_ints hi
  have lenV:=hi.length
  -- from an abstract heap in which nothing but the script may be tracked
  have core:∀ H:Hp,Only H→SqL K H a (ns.map V.int)→HOk P w H s₁.heap→(∀ b,H b≠none→b=a)→(H a≠none→K.lookup a=none)→
      codeAny (model P w) callerA (.call (.ref fa) ⟨[.ref a],[]⟩) (fun r s'=>r=.ok (.ret (.bool true))∧OldK s₁.heap s'.heap∧s'.os=s₁.os∧AllBare s'.gens) s₁:=by
    intro H hO hS hok hA hK
    have base_of:∀ {b:Addr} {o:Obj},s₁.heap.get? b=some o→H b=none→(hidT s₁.heap H).get? b=some o:=fun e n=>hidT_get e n
    have noA:∀ {b:Addr} {o:Obj} {es:Array DictEntry} {ep:Nat},s₁.heap.get? b=some o→o.data=.dict es ep→H b=none:=fun {b o es ep} e d=>by
      cases q:H b with
      | none=>rfl
      | some u =>
        have e':b=a:=hA b (by rw [q];simp)
        subst e'
        rw [ha] at e;cases e
        have d':Data.seq vs.toArray _=Data.dict es ep:=d
        cases d'
    have nsK:∀ {b:Addr} {m:Str→Option Value},s₁.heap.Ns b m→(hidT s₁.heap H).Ns b m:=fun {b m} ⟨o,es,ep,e,d,r⟩=>⟨o,es,ep,base_of e (noA e d),d,r⟩
    have hKb:K.In (hidT s₁.heap H):=fun b o e=>base_of (KX b o e) (by
      cases q:H b with
      | none=>rfl
      | some u =>
        have e':b=a:=hA b (by rw [q];simp)
        subst e'
        rw [hK (by rw [q];simp)] at e;cases e)
    have hM:Mod K mg (hidT s₁.heap H):=⟨hKb,nsK hns,⟨mb,nsK hb,hbb⟩,let ⟨mc,h1,h2⟩:=hlim;⟨mc,nsK h1,h2⟩⟩
    have e0:Env0 P w K mg (hidT s₁.heap H) callerA [] s₁ H:=⟨rfl,hM,fun b o e=>of_hidT e,Nat.le_of_eq (hidT_size _ _),trivial,fun b hb=>absurd (show b∈([]:List Addr) from hb) (by simp),hok,.of_eq hg⟩
    refine codeAny_mono ((F _ hKb (nsK hns)).run callerA [] s₁ H ⟨[.ref a],[]⟩ [.ref a] [.ref a] _ _ hr e0 (hbind s₁ (.ref a)) (.cons rfl .nil) (hsp H hO hS)) fun r s' h=>?_
    cases r with
    | error e=>exact (hCX H e s' h).elim
    | ok fl =>
      cases fl with
      | next=>exact False.elim h
      | brk=>exact False.elim h
      | cont=>exact False.elim h
      | ret u =>
        obtain ⟨v,H',os,bare,un,hok',r',q⟩:=h
        have q':v=.bl true:=q
        subst q'
        obtain rfl:u=Value.bool true:=r'
        refine ⟨rfl,OldK.of_keep fun b o e=>?_,os,bare⟩
        cases q:H b with
        | none=>exact un.keep b o e q (by intro z;exact absurd (show b∈([]:List Addr) from z) (by simp)) (by simp)
        | some u =>
          rcases hO b with z | ⟨ob,xs,z⟩
          · rw [q] at z;cases z
          · have z2:=un.frzs b ob _ z
            obtain ⟨e1,_⟩:=hok b _ z
            obtain ⟨e2,_⟩:=hok' b _ z2
            rw [e] at e1;cases e1
            exact e2
  cases hk:K.lookup a with
  | some o =>
    -- the script is one of the module's own objects
    have e:=KX a o hk
    rw [ha] at e
    cases e
    refine core (fun _=>none) (fun _=>.inl rfl) (.inr ⟨_,vs.toArray,_,hk,rfl,rfl,rfl,by rw [List.size_toArray,lenV];exact hl,by simpa using rv⟩) (fun b u z=>by have z':(none:Option HO)=some u:=z;cases z') (fun b z=>absurd rfl z) fun z=>absurd rfl z
  | none =>
    refine core (fun b=>if b=a then some (.frz {cls:=.type "list",data:=.seq vs.toArray} (.lst (ns.map V.int))) else none) (fun b=>?_) (.inl (.inr ⟨{cls:=.type "list",data:=.seq vs.toArray},if_pos rfl⟩)) (fun b u z=>?_) (fun b z=>?_) fun _=>hk
    · by_cases hb:b=a
      · exact .inr ⟨_,_,if_pos hb⟩
      · exact .inl (if_neg hb)
    · by_cases hb:b=a
      · have z':=(if_pos hb).symm.trans z
        cases z'
        subst hb
        exact ⟨ha,by rw [List.length_map];exact hl,vs,_,rv,ha⟩
      · have z':=(if_neg hb).symm.trans z
        cases z'
    · by_cases hb:b=a
      · exact hb
      · exact absurd (if_neg hb) z
end L2
namespace L2
open PySem PySem.Spec PyProof.Rows
noncomputable abbrev KOf {K:PySem.W.Frag} {h:Heap} (_:K.In h):PySem.W.Frag:=K
theorem walk_of {l:PySem.W.OpenLaw} {n k:Nat} {q:Program} {loose:List Str} {XP:(Str→Option Value)→Heap→Prop} {YP:World→Heap→Prop} {d:DefRec} {K:Params→PySem.W.Frag} {CX:World→CXT} {sp:World→Sp} {x:Str}
    (hn:l.most=some n) (hn2:n≤sizeLine) (hdf:d.params.defaults=[]) (hr:Room k callerA)
    (hY:∀ (w:World) (h:Heap),YP w h→(K w.params).In h)
    (F:∀ (w:World) (mg:Str→Option Value) (fa:Addr) (h:Heap),(K w.params).In h→h.Ns mainGlobals mg→mg d.name=some (.ref fa)→
      ∃ fd:FuncData,(∀ (s:Shared) (u:Value),BindsTo s fd ⟨[u],[]⟩ [(x,u)])∧
        ∀ base:Heap,(K w.params).In base→base.Ns mainGlobals mg→FnOk l.prog w (K w.params) mg base (CX w) k fa fd [x] (sp w))
    (hsp:∀ (w:World) (H:Hp) (a:Addr) (ns:List Int),ns.length≤n→Only H→SqL (K w.params) H a (ns.map V.int)→sp w [.ref a] H (fun v _=>v=.bl true) fun _ _ _=>False)
    (hCX:∀ (w:World) (H:Hp) (s:Shared) (e:Value) (s':Shared),CX w [] H s (fun _ _ _=>False) e s'→False) :
    PySem.W.WalkO q loose XP YP l.row.toRowW d [] (fun f vs=>PySem.call f vs):=by
  refine Att.attach_call hn hdf fun w s₀ s₁ mg mb fa o pm cd doc a vs ns G Y ho hd hcd hmg hobj hints hlen hg=>?_
  have KX:=hY w _ Y
  obtain ⟨fd,hb,hF⟩:=F w mg fa _ KX G.T.g hmg
  exact law_call KX G.T.g G.T.b G.T.builtins G.T.nolimit hg hobj hints (Nat.le_trans hlen hn2) hr hF hb (fun H hO hS=>hsp w H a ns hlen hO hS) fun H e s'=>hCX w H s₁ e s'
end L2
/- THE LAST THEOREM (shape; LID, My.* are yours):
   My.Adr: a structure of the addresses that your layer names (classes, functions); My.Txt K t: a structure (Prop) of the equations over K;
   My.txt_mk : {K} {implicit addresses ..} (e1 : nsIn K mainGlobals "law" = some (some (.ref f))) (e2 : K.lookup f = some ⟨oc, od, .func (fnOf "law" "law" params body scope dV kV doc pm an cdv ct), sl⟩) (e3 : codeIn K cdv "law" = true) .. : ∃ t, My.Txt K t
set_option maxRecDepth 100000 in
set_option maxHeartbeats 0 in
theorem PySem.Challenge.cw_LID_holds : PySem.Challenge.rw_LID.Holds := by
  w_on; o_law; k_head; (case hw => w_witness2)
  k_fill
  refine L2.walk_of (l := PySem.Challenge.rw_LID) (n := 63) (k := 40) (x := "script") (CX := fun w => ..) (sp := fun _ => My.sp_law) rfl (by decide) rfl ⟨rfl, by decide, by decide⟩ (fun w h Y => PySem.W.kIn_of Y) ?F ?S ?C
  case F =>
    intro w mg fa h KX G hmg
    have T : ∃ t, My.Txt (L2.KOf KX) t := by
      dsimp only [L2.KOf]                          -- K must stand as «<heap const> w.params» for k_is
      refine' My.txt_mk ?e1 ?e2 ?e3 ..
      (case e1 => PySem.W.k_is)                    -- in the order: a name -> its address -> its object -> its parts
      (case e2 => PySem.W.k_is)
      ..
    obtain ⟨t, T⟩ := T
    have e0 := hmg.symm.trans (PySem.W.mg_of KX G T.law)
    cases e0                                       -- fa is the law's own address
    exact ⟨_, fun s u => .of_eq rfl, fun base kb nb => My.law_fn T kb nb⟩     -- if «.of_eq rfl» comes too early: refine' ⟨_, ?b, fun base kb nb => My.law_fn T kb nb⟩; exact fun s u => .of_eq rfl
  case S => exact fun w H a ns hl hO hS => ..
  case C => exact ..
(the tactic k_is has no namespace: write k_is) -/
namespace L2
open PySem PySem.Spec PyProof.Rows
noncomputable def inClass (s:Stmt) (j:Nat):Stmt:=match s with
  | .ClassDef _ _ _ body _ _ _ _ _ _ _=>body.getD j (.Pass ⟨0,0,0,0⟩)
  | _=>.Pass ⟨0,0,0,0⟩
noncomputable def defArgs (s:Stmt):Arguments:=match s with
  | .FunctionDef _ a _ _ _ _ _ _ _ _=>a
  | _=>{posonlyargs:=[],args:=[],vararg:=none,kwonlyargs:=[],kw_defaults:=[],kwarg:=none,defaults:=[]}
noncomputable def defBody (s:Stmt):List Stmt:=match s with
  | .FunctionDef _ _ b _ _ _ _ _ _ _=>b
  | _=>[]
noncomputable def defScope (s:Stmt):Scope:=match s with
  | .FunctionDef _ _ _ _ _ _ sc _ _ _=>sc
  | _=>{kind:=.function,names:=[],isGenerator:=false,isCoroutine:=false}
noncomputable abbrev CX0:CXT:=fun _ _ _ _ _ _=>False
noncomputable abbrev E0:XK:=fun _ _ _=>False
theorem pass0 {X:Cx}:Passes CX0 X E0:=fun _ _ _ _ _ _ _ h=>h.elim
structure Fun (K:PySem.W.Frag) (x qual:Str) (st:Stmt) (f:Addr) (fd:FuncData):Prop where
  ex:∃ (oc:Value) (od:Option Addr) (kV doc pm:Value) (an:Option Addr) (cdv ct:Value) (osl:Array (Option Value)),
    fd=PySem.W.fnOf x qual (defArgs st) (defBody st) (defScope st) .none kV doc pm an cdv ct∧K.lookup f=some ⟨oc,od,.func fd,osl⟩∧PySem.W.codeIn K cdv qual=true
  kp:PySem.W.keepIn K (.ref f)=true
section
variable {P:Program} {w:World} {K:PySem.W.Frag} {mg:Str→Option Value} {base:Heap}
theorem Fun.ok {x qual:Str} {st:Stmt} {f:Addr} {fd:FuncData} {N ps:List Str} {k:Nat} {sp:Sp} (F:Fun K x qual st f fd) (S:FnScope N ps (defScope st)) (len:∀ vs H Q E,sp vs H Q E→vs.length=ps.length)
    (hbody:∀ (cdv:Value) (A:Around) (outer:List Env) (s:Shared) (H:Hp) (vs:List V) (Q:VK) (E:XK),Room k (A.deeper (envOfC qual (defScope st) s.heap.objs.size f cdv))→sp vs H Q E→
      ∃ t,PSs (cxOf CX0 P w K mg base N qual (defScope st) f cdv A outer s H E).nox (defBody st) t∧t {nx:=fun _ H'=>Q .non H',rt:=Q} (start N vs) H):FnOk P w K mg base CX0 (k+1) f fd ps sp:=by
  obtain ⟨oc,od,kV,doc,pm,an,cdv,ct,osl,rfl,lk,hcd⟩:=F.ex
  refine fn_of lk hcd S len fun A outer s H vs Q E hr hsp=>?_
  obtain ⟨t,h,q⟩:=hbody cdv A outer s H vs Q E hr hsp
  exact ⟨t,h.nox,q⟩
theorem Fun.binds {x qual:Str} {st:Stmt} {f:Addr} {fd:FuncData} {ps:List Str} (F:Fun K x qual st f fd)
    (h:∀ (kV doc pm:Value) (an:Option Addr) (cdv ct:Value) (us:List Value),us.length=ps.length→bindArgs (PySem.W.fnOf x qual (defArgs st) (defBody st) (defScope st) .none kV doc pm an cdv ct) ⟨us,[]⟩=pure (ps.zip us)):Binds K fd ps []:=by
  obtain ⟨oc,od,kV,doc,pm,an,cdv,ct,osl,rfl,lk,hcd⟩:=F.ex
  exact .all (h kV doc pm an cdv ct)
theorem fun_mk {x qual:Str} {st:Stmt} {f:Addr} {oc:Value} {od an:Option Addr} {osl:Array (Option Value)} {kV doc pm cdv ct:Value} (l:K.lookup f=some ⟨oc,od,.func (PySem.W.fnOf x qual (defArgs st) (defBody st) (defScope st) .none kV doc pm an cdv ct),osl⟩)
    (c:PySem.W.codeIn K cdv qual=true) (k:PySem.W.keepIn K (.ref f)=true):Fun K x qual st f (PySem.W.fnOf x qual (defArgs st) (defBody st) (defScope st) .none kV doc pm an cdv ct):=⟨⟨oc,od,kV,doc,pm,an,cdv,ct,osl,rfl,l,c⟩,k⟩
end
theorem hu_of {A:Around} {k:Nat} (hr:Room k A):A.units+1<cLine:=Nat.lt_of_le_of_lt (Nat.add_le_add_left (by decide:1≤64) _) hr.units
section
variable {X:Cx}
theorem pv (i:Nat) {x:Str} {pos:Pos} (hN:X.N[i]?=some x:=by rfl) (hv:Vis X.env.scope x:=by first | exact Or.inl rfl | exact Or.inr (Or.inl rfl) | exact Or.inr (Or.inr rfl)) (hd:(x==("__debug__":Str))=false:=by decide)
    (hcd:(x==("__classdict__":Str))=false:=by decide):PE X (.Name x pos) (tVar i):=pe_var hN hv hd hcd
end
theorem iteF {A B:Prop} (h:B):if false=true then A else B:=by
  rw [if_neg Bool.false_ne_true]
  exact h
theorem iteT {A B:Prop} (h:A):if true=true then A else B:=by
  rw [if_pos rfl]
  exact h
theorem ite2 {c A B:Prop} [Decidable c] (h1:c→A) (h2:¬ c→B):if c then A else B:=by
  by_cases h:c
  · rw [if_pos h]
    exact h1 h
  · rw [if_neg h]
    exact h2 h
theorem iteNS {c A B:Prop} [Decidable c] (hc:c) (h:B):if (!decide c)=true then A else B:=by
  rw [decide_eq_true hc]
  exact iteF h
noncomputable def Same (H H':Hp):Prop:=∀ b o,H b=some o→H' b=some o
theorem Same.refl (H:Hp):Same H H:=fun _ _ h=>h
theorem Same.trans {H H1 H2:Hp} (a:Same H H1) (b:Same H1 H2):Same H H2:=fun c o h=>b c o (a c o h)
theorem Same.free {H H':Hp} (e:Same H H') {l:Addr} (h:H' l=Option.none):H l=Option.none:=by
  cases q:H l with
  | none=>rfl
  | some o =>
    rw [e l o q] at h
    cases h
theorem Same.seq {K:PySem.W.Frag} {H H':Hp} {a:Addr} {xs:List V} (e:Same H H') (h:SqL K H a xs):SqL K H' a xs:=by
  rcases h with (h | ⟨o,h⟩) | h
  · exact .inl (.inl (e _ _ h))
  · exact .inl (.inr ⟨o,e _ _ h⟩)
  · exact .inr h
end L2
set_option maxHeartbeats 4000000
namespace L2
open PySem PySem.Spec PyProof.Rows
theorem forIn_by {al be:Type} {l:List al} {f:al→be→Sem (ForInStep be)} (R:List al→be→Prop):∀ (pre rest:List al) (c:be),l=pre++rest→R pre c→
    (∀ pre x post c,l=pre++x::post→R pre c→∃ d,f x c=pure (.yield d)∧R (pre++[x]) d)→∃ d,forIn rest c f=pure d∧R l d
  | pre,[],c,e,h0,_=>⟨c,rfl,by rw [e,List.append_nil];exact h0⟩
  | pre,x::rest,c,e,h0,h=>by
    obtain ⟨d,e1,r1⟩:=h pre x rest c e h0
    obtain ⟨d',e2,r2⟩:=forIn_by R (pre++[x]) rest d (by rw [e];simp) r1 h
    exact ⟨d',by rw [List.forIn_cons,e1,pure_bind];exact e2,r2⟩
theorem clos_get {scope:Scope} {env:Env} (h:∀ y,(y,NameKind.free)∈scope.names→∃ c,env.cells.lookup y=some c) :
    ∃ cl,closureFor scope env=pure cl∧(∀ y c,cl.lookup y=some c→env.cells.lookup y=some c)∧∀ y,(y,NameKind.free)∈scope.names→∃ c,cl.lookup y=some c:=by
  have key:=forIn_by (l:=scope.names) (be:=List (Str×Addr)) (f:=fun x r=>if (x.2==NameKind.free)=true then do let a ← cellOf env x.1;pure (ForInStep.yield ((x.1,a)::r)) else pure (ForInStep.yield r))
    (fun pre cs=>(∀ y c,cs.lookup y=some c→env.cells.lookup y=some c)∧∀ y,(y,NameKind.free)∈pre→∃ c,cs.lookup y=some c) [] scope.names [] (by simp)
    ⟨fun y c e=>by simp at e,fun y hy=>by simp at hy⟩ (by
      rintro pre ⟨n,k⟩ post cs e ⟨r1,r2⟩
      by_cases hk:k=NameKind.free
      · subst hk
        obtain ⟨c,hc⟩:=h n (by rw [e];simp)
        refine ⟨(n,c)::cs,?_,fun y d q=>?_,fun y hy=>?_⟩
        · have hco:cellOf env n=pure c:=by unfold cellOf;rw [hc]
          simp only [beq_self_eq_true,if_true,hco,pure_bind]
        · by_cases hy:y=n
          · subst hy
            rw [List.lookup_cons,beq_self_eq_true] at q
            cases q;exact hc
          · have hb:(y==n)=false:=by simpa using hy
            rw [List.lookup_cons,hb] at q
            exact r1 y d q
        · by_cases hn:y=n
          · exact ⟨c,by rw [hn,List.lookup_cons,beq_self_eq_true]⟩
          · have hb:(y==n)=false:=by simpa using hn
            rw [List.lookup_cons,hb]
            refine r2 y ?_
            rcases List.mem_append.mp hy with z | z
            · exact z
            · simp at z;exact absurd z hn
      · refine ⟨cs,?_,r1,fun y hy=>r2 y ?_⟩
        · have hb:(k==NameKind.free)=false:=by simpa using hk
          simp only [hb,Bool.false_eq_true,if_false]
        · rcases List.mem_append.mp hy with z | z
          · exact z
          · simp at z;exact absurd z.2.symm hk)
  obtain ⟨cl,e,r⟩:=key
  refine ⟨cl,?_,r⟩
  have e':closureFor scope env=forIn scope.names ([]:List (Str×Addr)) (fun x r=>if (x.2==NameKind.free)=true then do let a ← cellOf env x.1;pure (ForInStep.yield ((x.1,a)::r)) else pure (ForInStep.yield r)):=by
    simp only [closureFor,bind_pure]
  rw [e',e]
noncomputable def Cx.cmp (X:Cx) (N:List Str) (scope:Scope) (cl:List (Str×Addr)) (C:Addr) (s:Shared) (H:Hp) (fp:List Addr):Cx where
  prog:=X.prog
  w:=X.w
  K:=X.K
  mg:=X.mg
  base:=X.base
  A:=X.A
  N:=N
  s₀:=s
  H₀:=H
  env:=compEnvC scope cl C X.env
  outer:=X.stack
  stack:=X.stack
  ex:=fp
  fn:=fun _=>false
  calm:=X.calm
  pn:=[]
  xe:=fun _ _=>False
theorem look_map {names:List (Str×NameKind)} {q:Str→NameKind→Bool} {y:Str}:(names.map fun (n,k)=>if q n k=true then (n,NameKind.cell) else (n,k)).lookup y=(names.lookup y).map fun k=>if q y k=true then NameKind.cell else k:=by
  induction names with
  | nil=>rfl
  | cons p r ih =>
    obtain ⟨n,k⟩:=p
    rw [List.map_cons]
    by_cases hy:y=n
    · subst hy
      by_cases hq:q y k=true
      · simp [List.lookup_cons,hq]
      · simp [List.lookup_cons,hq]
    · have hb:(y==n)=false:=by simpa using hy
      by_cases hq:q n k=true
      · simp only [hq,if_true,List.lookup_cons,hb];exact ih
      · simp only [hq,Bool.false_eq_true,if_false,List.lookup_cons,hb];exact ih
section
variable {X:Cx} {pins:List (Addr×Obj)} {σ:St} {H:Hp} {s:Shared} {fp:List Addr} {scope:Scope} {cl:List (Str×Addr)} {N:List Str} {C:Addr}
structure CmpScope (X:Cx) (N:List Str) (scope:Scope):Prop where
  kind:scope.kind=.function
  nocell:∀ y∈scope.names,y.2≠.cell
  loc:∀ y∈scope.names,y.2=.local→scope.names.lookup y.1=some .local
  fre:∀ y,scope.names.lookup y=some .free→X.env.kindOf y=some .cell
  fre2:∀ y,(y,NameKind.free)∈scope.names→X.env.kindOf y=some .cell
  nd:N.Nodup
  at0:∀ y,scope.names.lookup y=some .free→(y,NameKind.free)∈scope.names
theorem cmp_ok (S:CmpScope X N scope) (I:Inv X pins σ H s) (hf:∀ b∈fp,FpOk X pins H b) (ho:∀ b∈fp,∃ o,s.heap.get? b=some o) (hcl:∀ y c,cl.lookup y=some c→X.env.cells.lookup y=some c)
    (hcf:∀ y,(y,NameKind.free)∈scope.names→∃ c,cl.lookup y=some c) (hC:s.heap.objs.size≤C):(X.cmp N scope cl C s H fp).Ok where
  mod:=I.ok.mod
  kind:=S.kind
  glob:=I.ok.glob
  blt:=I.ok.blt
  above:=hC
  inj:=fun x y c h1 h2=>I.ok.inj x y c (hcl x c h1) (hcl y c h2)
  has:=fun y hy=>by
    have hy':(relabel scope X.env).names.lookup y=some .cell∨(relabel scope X.env).names.lookup y=some .free:=hy
    have e:(relabel scope X.env).names.lookup y=(scope.names.lookup y).map fun k=>if (k==.free&&X.env.scope.kind==.function&&X.env.kindOf y==some .cell)=true then NameKind.cell else k :=
      look_map (q:=fun n k=>k==.free&&X.env.scope.kind==.function&&X.env.kindOf n==some .cell)
    rw [e] at hy'
    cases q:scope.names.lookup y with
    | none=>rw [q] at hy';simp at hy'
    | some k =>
      by_cases hk:k=NameKind.free
      · subst hk
        exact hcf y (S.at0 y q)
      · exfalso
        have hb:(k==NameKind.free)=false:=by simpa using hk
        rw [q] at hy'
        simp only [Option.map_some,hb,Bool.false_and,Bool.false_eq_true,if_false,Option.some.injEq] at hy'
        rcases hy' with z | z
        · exact S.nocell _ (PySem.mem_of_lookup q) z
        · exact hk z
  cab:=fun y c h _=>nomatch h
  hd:=I.ok.hd
  frames:=I.ok.frames
  stk:=.inl rfl
  exf:=fun b hb=>by
    obtain ⟨o,e⟩:=ho b hb
    obtain ⟨_,_,_,_,f4,_⟩:=hf b hb
    exact ⟨Nat.ne_of_lt (Nat.lt_of_lt_of_le (Heap.lt_size e) hC),fun x c q=>f4 x c (hcl x c q)⟩
  bs:=I.bs
  bsz:=Nat.le_trans I.ok.bsz I.sz
  noex:=fun b o e hb=>by
    obtain ⟨_,_,_,f3,_,_⟩:=hf b hb
    rcases f3 with z | z
    · exact I.ok.noex b o e z
    · exact absurd (Nat.lt_of_lt_of_le (Heap.lt_size e) (Nat.le_trans I.ok.bsz z)) (Nat.lt_irrefl _)
  exfs:=fun b hb z=>by
    obtain ⟨_,f1,f2,_⟩:=hf b hb
    rcases List.mem_cons.mp (I.stkSub b z) with e | e
    · exact f1 e
    · exact f2 e
  funs:=I.stack
  frf:=I.stkFree
noncomputable def freeSt (k:Nat) (fr:List Nat) (σ:St):St:=List.replicate k none++fr.map fun i=>(σ[i]?).join
structure CmpFree (X:Cx) (N:List Str) (scope:Scope) (k:Nat) (fr:List Nat):Prop where
  len:N.length=k+fr.length
  at1:∀ (j i:Nat) (y:Str),fr[j]?=some i→N[k+j]?=some y→X.N[i]?=some y∧scope.names.lookup y=some .free
theorem cmp_start (S:CmpScope X N scope) {k:Nat} {fr:List Nat} (F:CmpFree X N scope k fr) (I:Inv X pins σ H s) (hf:∀ b∈fp,FpOk X pins H b) (ho:∀ b∈fp,∃ o,s.heap.get? b=some o)
    (hcl:∀ y c,cl.lookup y=some c→X.env.cells.lookup y=some c) (hcf:∀ y,(y,NameKind.free)∈scope.names→∃ c,cl.lookup y=some c) (hC:s.heap.objs.size≤C)
    {s1:Shared} {m:Str→Option Value} {D:Addr} {oD:Obj} (hos:s1.os=s.os) (hg:s1.gens=s.gens) (kp:∀ b o,s.heap.get? b=some o→s1.heap.get? b=some o) (hn:s1.heap.Ns C m)
    (hD:s1.heap.get? D=some oD) (hD0:s.heap.objs.size≤D) (hDC:D≠C) (hdc:∀ v,oD.data≠.cell v) :
    Inv (X.cmp N scope cl C s H fp) [(D,oD)] (freeSt k fr σ) H s1:=by
  have hfs:D∉frs X.stack:=fun z=>by
    obtain ⟨_,o,q,_⟩:=I.stack.mem z
    exact absurd (Nat.lt_of_lt_of_le (Heap.lt_size q) hD0) (Nat.lt_irrefl _)
  refine ⟨cmp_ok S I hf ho hcl hcf hC,hos,by rw [hg];exact I.bare,Un.kept kp,⟨m,hn,fun i x v e1 e2 e3=>?_⟩,fun y c e=>?_,I.hok.fresh hC,fun y c e=>I.freeC y c (hcl y c e),fun p hp=>?_,I.hok.kept kp,?_⟩
  · -- a name that has a value is a free one
    unfold freeSt at e2
    by_cases hi:i<k
    · rw [List.getElem?_append_left (by simpa using hi),List.getElem?_replicate] at e2
      split at e2 <;> cases e2
    · obtain ⟨j,rfl⟩:∃ j,i=k+j:=⟨i - k,by lia⟩
      rw [List.getElem?_append_right (by simp),List.length_replicate,Nat.add_sub_cancel_left,List.getElem?_map] at e2
      cases q:fr[j]? with
      | none=>rw [q] at e2;cases e2
      | some i' =>
        rw [q] at e2
        have e2':(σ[i']?).join=some v:=Option.some.inj e2
        obtain ⟨a1,a2⟩:=F.at1 j i' x q e1
        have hk:=S.fre x a2
        obtain ⟨m0,hn0,hl0⟩:=I.loc
        have hv:σ[i']?=some (some v):=by
          cases z:σ[i']? with
          | none=>rw [z] at e2';cases e2'
          | some w=>rw [z] at e2';rw [show w=some v from e2']
        obtain ⟨u,r,l⟩:=hl0 i' x v a1 hv (.inr (.inl hk))
        refine ⟨u,r,.inr ⟨.inl ?_,?_⟩⟩
        · show (relabel scope X.env).names.lookup x=some .cell
          have e:(relabel scope X.env).names.lookup x=(scope.names.lookup x).map fun k=>if (k==.free&&X.env.scope.kind==.function&&X.env.kindOf x==some .cell)=true then NameKind.cell else k :=
            look_map (q:=fun n k=>k==.free&&X.env.scope.kind==.function&&X.env.kindOf n==some .cell)
          rw [e,a2,hk,I.ok.kind]
          rfl
        · obtain ⟨c,hc⟩:=hcf x (S.at0 x a2)
          refine ⟨c,hc,?_⟩
          rcases l with ⟨z,_⟩ | ⟨_,c',hc',z⟩
          · rw [hk] at z;cases z
          · have ec:=hcl x c hc
            rw [hc'] at ec;cases ec
            obtain ⟨o,ho,hd⟩:=z
            exact ⟨o,kp _ _ ho,hd⟩
  · obtain ⟨v,o,q,d⟩:=I.cell y c (hcl y c e)
    exact ⟨v,o,kp _ _ q,d⟩
  · have hp':p=(D,oD):=by simpa [Cx.cmp] using hp
    subst hp'
    exact ⟨hD,I.hok.fresh hD0,hDC,hfs,hdc⟩
  · unfold freeSt
    show _=N.length
    rw [List.length_append,List.length_replicate,List.length_map,F.len]
noncomputable abbrev lstO (its:List Value) (n:Nat):Obj:={cls:=.type "list",data:=.seq its.toArray n}
theorem cmp_back {σ':St} {H':Hp} {s':Shared} {D:Addr} {its:List Value} {n:Nat} {ys:List V} (I:Inv X pins σ H s) (hf:∀ b∈fp,FpOk X pins H b) (J:Inv (X.cmp N scope cl C s H fp) [(D,lstO its n)] σ' H' s') (r:Vals ys its)
    (hz:ys.length≤sizeLine) (hD0:s.heap.objs.size≤D):H' D=none∧Inv X pins σ (upd H' D (.lst ys)) s':=by
  obtain ⟨e1,hn,_,_,_⟩:=J.pin (D,lstO its n) (by simp [Cx.cmp])
  have e1:s'.heap.get? D=some (lstO its n):=e1
  have hn:H' D=none:=hn
  have u:=J.base
  have neD:∀ b o,s.heap.get? b=some o→b≠D:=fun b o q=>Nat.ne_of_lt (Nat.lt_of_lt_of_le (Heap.lt_size q) hD0)
  have u':Un (frs X.stack) fp H (upd H' D (.lst ys)) s.heap s'.heap :=
    ⟨u.keep,u.slot,fun b o q z hx=>by rw [upd_ne (neD b o q)];exact u.free b o q z hx,u.there,fun b xs q=>by rw [upd_ne (ne_of_none (u.tups b xs q) hn)];exact u.tups b xs q,
      fun b o x q=>by rw [upd_ne (ne_of_none (u.frzs b o x q) hn)];exact u.frzs b o x q,fun b ps q=>by
        obtain ⟨more,z⟩:=u.tbls b ps q
        exact ⟨more,by rw [upd_ne (ne_of_none z hn)];exact z⟩⟩
  have hok:HOk X.prog X.w (upd H' D (.lst ys)) s'.heap:=fun b o q=>by
    by_cases hb:b=D
    · subst hb
      rw [upd_same] at q
      cases q
      exact ⟨hz,its,n,r,e1⟩
    · rw [upd_ne hb] at q
      exact (J.hok b o q).stay (fun c v _ z=>z) (fun c z=>by rw [upd_ne (ne_of_none z hn)];exact z) fun c xs z=>by rw [upd_ne (ne_of_none z hn)];exact z
  refine ⟨hn,?_⟩
  have os:=J.os
  have bare:=J.bare
  obtain ⟨hh,g,d,t,os'⟩:=s'
  obtain rfl:os'=s.os:=os
  exact I.call (h':=hh) (g':=g) (d':=d) (t':=t) (ch:=fp) u' hok bare fun b hb=>by
    obtain ⟨_,f1,_,f3,f4,f5⟩:=hf b hb
    exact ⟨f3,f1,f4,f5⟩
end
end L2
namespace L2
open PySem PySem.Spec PyProof.Rows
noncomputable def PF (X:Cx) (ifs:List Expr) (t:TT):Prop :=
  ∀ (pins:List (Addr×Obj)) (s:Shared) (σ:St) (H:Hp) (Q:Bool→Hp→Prop),Inv X pins σ H s→t σ H Q→
    wpAny (model X.prog X.w) X.A (forIn ifs true fun c r=>if r=true then do let ok ← isTrue c X.env (eval c X.env);pure (ForInStep.yield ok) else pure (ForInStep.yield r)) (TP X pins σ Q) X.xe s
noncomputable def tTrue:TT:=fun _ H Q=>Q true H
theorem pf_nil {X:Cx}:PF X [] tTrue:=fun _ _ _ H _ I h=>wpAny_tests_nil ⟨H,I,h⟩
theorem pf_one {X:Cx} {c:Expr} {tc:TT} (hc:PT X c tc):PF X [c] tc:=fun pins s σ H Q I h=>wpAny_tests_one (hc pins s σ H Q I h)
section
variable {prog:Program} {w:World} {A:Around}
theorem noE {al:Type} {t:Sem al} {Q:al→Shared→Prop} {E:Value→Shared→Prop} {s:Shared} (h:wpAny (model prog w) A t Q (fun _ _=>False) s):wpAny (model prog w) A t Q E s :=
  wpAny_mono h (fun _ _ x=>x) fun _ _ f=>f.elim
theorem cmp_loop {R:Result→Shared→Prop} {s:Shared} {elt tg iter:Expr} {ifs:List Expr} {scope:Scope} {pos:Pos} {it acc:Value} {env:Env} (I:Nat→Shared→Prop)
    (turn:∀ n s,I n s→wpAny (model prog w) A (pyNext it) (fun r s1=>(r=none∧R (.ok .next) s1)∨∃ v,r=some v∧
      wpAny (model prog w) A (letOwnedTupleGo tg it v) (fun _ s2=>wpAny (model prog w) A (assign tg env v) (fun _ s3 =>
        wpAny (model prog w) A (forIn ifs true fun c r=>if r=true then do let ok ← isTrue c env (eval c env);pure (ForInStep.yield ok) else pure (ForInStep.yield r)) (fun ok s4 =>
          if ok=true then wpAny (model prog w) A (eval elt env) (fun x s5 =>
            wpAny (model prog w) A (call (.builtin "list.append") [acc,x]) (fun _ s6=>∃ m,m<n∧I m s6) (fun _ _=>False) s5) (fun _ _=>False) s4
          else ∃ m,m<n∧I m s4) (fun _ _=>False) s3) (fun _ _=>False) s2) (fun _ _=>False) s1) (fun _ _=>False) s)
    (n:Nat) (h:I n s):codeAny (model prog w) A (.compLoop (.ListComp elt [⟨tg,iter,ifs,0⟩] scope pos) 0 it acc env) R s:=by
  refine codeAny_loop rfl I (fun n s hI=>?_) n h
  show wpAny _ A ((compTurn (.ListComp elt [⟨tg,iter,ifs,0⟩] scope pos) 0 it acc env).onRaise (fun x=>do noteFrame x env;theTreesLotGoes x)) _ _ s
  refine wpAny_noted ?_
  rw [compTurn_list]
  refine wpAny_bind (wpAny_standAt (wpAny_bind (noE (thn (turn n s hI) fun r s1 h1=>?_))))
  rcases h1 with ⟨rfl,h1⟩ | ⟨v,rfl,h1⟩
  · exact wpAny_pure h1
  · refine wpAny_bind (noE (thn h1 fun _ s2 h2=>wpAny_bind (noE (thn h2 fun _ s3 h3=>wpAny_bind (noE (thn h3 fun ok s4 h4=>?_))))))
    cases ok with
    | false=>exact wpAny_pure ⟨rfl,h4⟩
    | true=>exact wpAny_bind (wpAny_bind (noE (thn h4 fun x s5 h5=>wpAny_bind (noE (thn h5 fun _ s6 h6=>wpAny_pure (wpAny_pure ⟨rfl,h6⟩))))))
end
noncomputable def GKeeps (k:Nat) (g:TG):Prop:=∀ v σ H Q,g v σ H Q→g v σ H fun σ2 H2=>(σ2.length=σ.length∧∀ i,k≤i→σ2[i]?=σ[i]?)∧Q σ2 H2
theorem gk_name {k i:Nat} (h:i<k):GKeeps k (gName i):=fun v σ H Q q=>⟨⟨List.length_set,fun j hj=>List.getElem?_set_ne (by lia)⟩,q⟩
noncomputable def tComp (k:Nat) (fr:List Nat) (wi:TI) (g:TG) (tc:TT) (te:TE):TE:=fun σ H Q=>wi σ H fun J H1=>∃ W:Nat→Nat→List V→Hp→Prop,(∃ m,W 0 m [] H1)∧∀ i m ys H,W i m ys H→
  (J.stop i H∧∀ D,H D=none→Q (.ref D) (upd H D (.lst ys)))∨
  (J.go i H∧ys.length<sizeLine∧∃ Nx:List V→Hp→Prop,(∀ ys' H',Nx ys' H'→∃ m',m'<m∧W (i+1) m' ys' H')∧
    ∀ x H',J.yld i H x H'→g x (freeSt k fr σ) H' fun σ2 H2=>tc σ2 H2 fun b H3=>if b=true then te σ2 H3 fun y H4=>Nx (ys++[y]) H4 else Nx ys H3)
section
variable {X:Cx} {pins:List (Addr×Obj)} {σ:St} {tg elt iter:Expr} {ifs:List Expr} {scope:Scope} {pos:Pos} {N:List Str} {k:Nat} {fr:List Nat} {wi:TI} {g:TG} {tc:TT} {te:TE}
theorem cmp_block (S:CmpScope X N scope) (F:CmpFree X N scope k fr) (hc:X.calm=true)
    (hg:∀ cl C s H fp,PG (X.cmp N scope cl C s H fp) tg g) (hk:GKeeps k g) (hi:∀ cl C s H fp,PF (X.cmp N scope cl C s H fp) ifs tc) (he:∀ cl C s H fp,PE (X.cmp N scope cl C s H fp) elt te)
    {s2:Shared} {it:Addr} {fp:List Addr} {tn:Nat→Heap→Prop} {J:It} {H2:Hp} (I:Inv X pins σ H2 s2) (T:Turn X.prog X.w X.K tg J fp it tn) (st:tn 0 s2.heap) (f2:∀ b∈fp,FpOk X pins H2 b)
    {W:Nat→Nat→List V→Hp→Prop} {m0:Nat} (w0:W 0 m0 [] H2) {Fin:List V→Hp→Prop}
    (turn:∀ i m ys H,W i m ys H→(J.stop i H∧Fin ys H)∨
      (J.go i H∧ys.length<sizeLine∧∃ Nx:List V→Hp→Prop,(∀ ys' H',Nx ys' H'→∃ m',m'<m∧W (i+1) m' ys' H')∧
        ∀ x H',J.yld i H x H'→g x (freeSt k fr σ) H' fun σ2 H2=>tc σ2 H2 fun b H3=>if b=true then te σ2 H3 fun y H4=>Nx (ys++[y]) H4 else Nx ys H3))
    {cl:List (Str×Addr)} (hcl:∀ y c,cl.lookup y=some c→X.env.cells.lookup y=some c) (hcf:∀ y,(y,NameKind.free)∈scope.names→∃ c,cl.lookup y=some c)
    {RR:Value→Addr→Result→Shared→Prop} {E:Value→Shared→Prop}
    (hRR:∀ D C s' its n ys H' σ',s2.heap.objs.size≤D→s2.heap.objs.size≤C→D≠C→Inv (X.cmp N scope cl C s2 H2 fp) [(D,lstO its n)] σ' H' s'→Vals ys its→ys.length≤sizeLine→Fin ys H'→RR (.ref D) C (.ok .next) s') :
    wpAny (model X.prog X.w) X.A (newList []) (fun acc s3=>wpAny (model X.prog X.w) X.A (newFunctionEnv scope X.env.globals cl [] X.env.qual none .none (some X.env)) (fun cenv s4 =>
      codeAny (model X.prog X.w) X.A (.compStart (.ListComp elt [⟨tg,iter,ifs,0⟩] scope pos) 0 (.ref it) acc {cenv with scope:=relabel scope X.env}) (RR acc cenv.locals) s4) E s3) E s2:=by
  refine wpAny_newObj_type (wpAny_newFunctionEnv S.nocell (by intro y hy;simp at hy) (fun h1 hns sb=>?_) S.kind)
  dsimp only at hns sb⊢
  generalize hG:s2.heap.push {cls:=.type "list",dict:=none,data:=.seq ([]:List Value).toArray}=G at hns sb⊢
  have hC:G.objs.size=s2.heap.objs.size+1:=by rw [← hG,Heap.size_push]
  have hDC:s2.heap.objs.size≠G.objs.size:=by rw [hC];exact Nat.ne_of_lt (Nat.lt_succ_self _)
  have old:∀ b o,s2.heap.get? b=some o→h1.get? b=some o:=fun b o e =>
    sb.extBut b o (by rw [hC];exact Nat.ne_of_lt (Nat.lt_succ_of_lt (Heap.lt_size e))) (Heap.get?_push_of_some _ (hG▸Heap.get?_push_of_some _ e))
  have hacc:h1.get? s2.heap.objs.size=some (lstO [] 0):=sb.extBut _ _ hDC (Heap.get?_push_of_some _ (hG▸Heap.get?_push_size _ rfl))
  have hfo:∀ b∈fp,∃ o,s2.heap.get? b=some o:=fun b hb=>let ⟨o,e,_⟩:=T.obj 0 _ st b hb;⟨o,e⟩
  have ltD:∀ b∈fp,b≠s2.heap.objs.size:=fun b hb=>let ⟨o,e⟩:=hfo b hb;Nat.ne_of_lt (Heap.lt_size e)
  generalize hX:X.cmp N scope cl G.objs.size s2 H2 fp=X'
  have I0:Inv X' [(s2.heap.objs.size,lstO [] 0)] (freeSt k fr σ) H2 {s2 with heap:=h1,toks:=s2.toks+([]:List (Str×Value)).length}:=by
    rw [← hX]
    exact cmp_start S F I f2 hfo hcl hcf (by rw [hC];exact Nat.le_succ _) rfl rfl old hns hacc (Nat.le_refl _) hDC fun v z=>by cases z
  have eP:X'.prog=X.prog:=by rw [← hX];rfl
  have eW:X'.w=X.w:=by rw [← hX];rfl
  have eK:X'.K=X.K:=by rw [← hX];rfl
  have eA:X'.A=X.A:=by rw [← hX];rfl
  have eC:X'.calm=true:=by rw [← hX];exact hc
  have eE:X'.env=compEnvC scope cl G.objs.size X.env:=by rw [← hX];rfl
  have eX:X'.xe=fun _ _=>False:=by rw [← hX];rfl
  have eF:X'.ex=fp:=by rw [← hX];rfl
  have eS:X'.s₀=s2:=by rw [← hX];rfl
  have ePn:X'.pn=[]:=by rw [← hX];rfl
  have T':Turn X'.prog X'.w X'.K tg J fp it tn:=by rw [eP,eW,eK];exact T
  have hg':PG X' tg g:=by rw [← hX];exact hg _ _ _ _ _
  have hi':PF X' ifs tc:=by rw [← hX];exact hi _ _ _ _ _
  have he':PE X' elt te:=by rw [← hX];exact he _ _ _ _ _
  have stat:∀ {o:Obj} {H':Hp},(∀ b∈fp,H' b=none)→∀ b∈fp,FpOk X' [(s2.heap.objs.size,o)] H' b:=fun {o H'} hn b hb=>by
    have ok:=I0.ok
    obtain ⟨z1,z2⟩:=ok.exf b (by rw [eF];exact hb)
    refine ⟨hn b hb,z1,ok.exfs b (by rw [eF];exact hb),.inl (by rw [eF];exact hb),z2,fun p hp=>?_⟩
    rw [ePn] at hp
    have hp':p=(s2.heap.objs.size,o):=by simpa using hp
    rw [hp']
    exact fun z=>ltD b hb z.symm
  -- back to the block's first names
  have back:∀ {pl:List (Addr×Obj)} {σ6:St} {H6:Hp} {s6:Shared},Inv X' pl σ6 H6 s6→(σ6.length=(freeSt k fr σ).length∧∀ i,k≤i→σ6[i]?=(freeSt k fr σ)[i]?)→Inv X' pl (freeSt k fr σ) H6 s6:=fun {pl σ6 H6 s6} I6 ⟨l1,l2⟩ =>
    I6.weak l1.symm fun i v e=>by
      by_cases hik:i<k
      · unfold freeSt at e
        rw [List.getElem?_append_left (by simpa using hik),List.getElem?_replicate] at e
        split at e <;> cases e
      · rw [l2 i (by lia)];exact e
  have loop:codeAny (model X.prog X.w) X.A (.compLoop (.ListComp elt [⟨tg,iter,ifs,0⟩] scope pos) 0 (.ref it) (.ref s2.heap.objs.size) (compEnvC scope cl G.objs.size X.env))
      (RR (.ref s2.heap.objs.size) G.objs.size) {s2 with heap:=h1,toks:=s2.toks+([]:List (Str×Value)).length}:=by
    rw [← eP,← eW,← eA,← eE]
    refine cmp_loop (fun n s'=>∃ i ys its nn H',Inv X' [(s2.heap.objs.size,lstO its nn)] (freeSt k fr σ) H' s'∧Vals ys its∧ys.length≤sizeLine∧tn i s'.heap∧(∀ b∈fp,H' b=none)∧W i n ys H') ?_ m0
      ⟨0,[],[],0,H2,I0,.nil,Nat.zero_le _,T.keep _ _ _ st fun b _ o e=>old b o e,fun b hb=>(f2 b hb).1,w0⟩
    rintro n s' ⟨i,ys,its,nn,H',I',rv,hz,st',fr',w'⟩
    rcases turn i n ys H' w' with ⟨stop,fin⟩ | ⟨go,hlt,Nx,hN,step⟩
    · refine thn (T'.done X' rfl rfl rfl eC i _ s' _ H' _ I' (stat fr') st' stop) fun r s1 ⟨hr,I1⟩=>.inl ⟨hr,?_⟩
      rw [← hX] at I1
      exact hRR _ _ s1 its nn ys H' _ (Nat.le_refl _) (by rw [hC];exact Nat.le_succ _) hDC I1 rv hz fin
    · refine thn (T'.item X' rfl rfl rfl eC i _ s' _ H' _ I' (stat fr') st' go) fun r s1 ⟨u,hr,h4⟩=>.inr ⟨u,hr,thn h4 fun _ s5 ⟨x,H5,I5,r5,y5,st5,fr5⟩=>?_⟩
      have I5':=I5.pinned (stat fr5) (T.obj _ _ st5)
      have hgx:=hg' _ s5 _ H5 x u _ I5' r5 (hk _ _ _ _ (step x H5 y5))
      rw [eX] at hgx
      refine thn hgx fun _ s6 ⟨σ6,H6,I6,l6,q6⟩=>?_
      have hix:=hi' _ s6 σ6 H6 _ I6 q6
      rw [eX] at hix
      have pinD:∀ {σ7:St} {H7:Hp} {s7:Shared},Inv X' ([(s2.heap.objs.size,lstO its nn)]++pinsAt fp s5.heap) σ7 H7 s7→s7.heap.get? s2.heap.objs.size=some (lstO its nn)∧H7 s2.heap.objs.size=none∧s2.heap.objs.size≠X'.env.locals:=fun I7=>by
        obtain ⟨z1,z2,z3,_⟩:=I7.pin (s2.heap.objs.size,lstO its nn) (List.mem_append_right _ (List.mem_append_left _ (by simp)))
        exact ⟨z1,z2,z3⟩
      have iter2:∀ {σ7:St} {H7:Hp} {s7:Shared},Inv X' ([(s2.heap.objs.size,lstO its nn)]++pinsAt fp s5.heap) σ7 H7 s7→tn (i+1) s7.heap∧∀ b∈fp,H7 b=none:=fun {σ7 H7 s7} I7 =>
        ⟨T.keep _ _ _ st5 fun b hb o e=>(I7.pin (b,o) (List.mem_append_right _ (List.mem_append_right _ (mem_pinsAt hb e)))).1,fun b hb=>by
          obtain ⟨o,e,d⟩:=T.obj _ _ st5 b hb
          exact (I7.pin (b,o) (List.mem_append_right _ (List.mem_append_right _ (mem_pinsAt hb e)))).2.1⟩
      refine thn hix fun ok s7 ⟨H7,I7,q7⟩=>?_
      cases ok with
      | false =>
        obtain ⟨m',hm,w7⟩:=hN _ _ (show Nx ys H7 from q7)
        obtain ⟨a1,a2⟩:=iter2 I7
        exact ⟨m',hm,i+1,ys,its,nn,H7,back I7.unpinned l6,rv,hz,a1,a2,w7⟩
      | true =>
        have hex:=he' _ s7 σ6 H7 _ I7 (show te σ6 H7 _ from q7)
        rw [eX] at hex
        refine thn hex fun v s8 ⟨y,H8,I8,r8,q8⟩=>?_
        obtain ⟨z1,z2,z3⟩:=pinD I8
        obtain ⟨a1,a2⟩:=iter2 I8
        obtain ⟨m',hm,w8⟩:=hN _ _ q8
        have hl:=rv.length
        refine append_at (hsz:=by show its.toArray.size≤sizeLine;rw [List.size_toArray];lia) z1 fun h9 sb9 hD9=>?_
        have I8':Inv X' (pinsAt fp s5.heap) (freeSt k fr σ) H8 s8:=(back I8 l6).pins_of fun p hp=>I8.pin p (List.mem_append_right _ (List.mem_append_right _ hp))
        have I9:Inv X' (pinsAt fp s5.heap) (freeSt k fr σ) H8 {s8 with heap:=h9}:=I8'.turned (t':=s8.toks) (it:=s2.heap.objs.size) (fun b o hb e=>(sb9.2 b hb).trans e) z2 z3 (.inr (by rw [eS];exact Nat.le_refl _))
          (fun y c e z=>by
            obtain ⟨v',q⟩:=I0.cell y c e
            have hcl':cl.lookup y=some c:=by rw [eE] at e;exact e
            obtain ⟨v2,q2⟩:=I.cell y c (hcl y c hcl')
            rw [z] at q2
            exact absurd q2.lt (Nat.lt_irrefl _))
          (fun p hp z=>by
            rw [ePn] at hp
            exact ltD p.1 (of_pinsAt hp).1 z)
        have I9':Inv X' [(s2.heap.objs.size,lstO (its++[v]) (nn+1))] (freeSt k fr σ) H8 {s8 with heap:=h9}:=I9.pins_of fun p hp=>by
          have hp':p=(s2.heap.objs.size,lstO (its++[v]) (nn+1)):=by simpa using hp
          rw [hp']
          refine ⟨?_,z2,z3,?_,fun v z=>by cases z⟩
          · show h9.get? _=_
            rw [hD9]
            simp [lstO]
          · exact (I8.pin (s2.heap.objs.size,lstO its nn) (List.mem_append_right _ (List.mem_append_left _ (by simp)))).2.2.2.1
        refine ⟨m',hm,i+1,ys++[y],its++[v],nn+1,H8,I9',rv.append (.cons r8 .nil),by rw [List.length_append];simp;lia,?_,a2,w8⟩
        exact T.keep _ _ _ a1 fun b hb o e=>(sb9.2 b (ltD b hb)).trans e
  exact codeAny_compStart_list loop (T.self _ 0 _ _ _ (T.keep _ _ _ st fun b _ o e=>old b o e) loop)
theorem cmp_off {s2 s':Shared} {fp:List Addr} {cl:List (Str×Addr)} {H2 H':Hp} {σ':St} {D C:Addr} {o:Obj} {u:HO} {h':Heap} {σ0:St} (I:Inv X pins σ H2 s2) (hC:s2.heap.objs.size≤C) (hDC:D≠C)
    (J:Inv (X.cmp N scope cl C s2 H2 fp) [(D,o)] σ' H' s') {s9:Shared} (I':Inv X pins σ0 (upd H' D u) s9) (sb:Heap.SameBut C s9.heap h'):Inv X pins σ0 (upd H' D u) {s9 with heap:=h'}:=by
  refine I'.turned (t':=s9.toks) (it:=C) (fun b o hb e=>(sb.2 b hb).trans e) (by rw [upd_ne (Ne.symm hDC)];exact J.free) (Nat.ne_of_gt (Nat.lt_of_lt_of_le I.lt hC)) (.inr (Nat.le_trans I.sz hC)) (fun y c e z=>?_) fun p hp z=>?_
  · obtain ⟨v,q⟩:=I.cell y c e
    exact absurd (Nat.lt_of_lt_of_le q.lt (by rw [z];exact hC)) (Nat.lt_irrefl _)
  · exact absurd (Nat.lt_of_lt_of_le (Heap.lt_size (I.pin p hp).1) (by rw [z];exact hC)) (Nat.lt_irrefl _)
theorem pe_comp (S:CmpScope X N scope) (F:CmpFree X N scope k fr) (hc:X.calm=true) (hit:PI X tg iter wi)
    (hg:∀ cl C s H fp,PG (X.cmp N scope cl C s H fp) tg g) (hk:GKeeps k g) (hi:∀ cl C s H fp,PF (X.cmp N scope cl C s H fp) ifs tc) (he:∀ cl C s H fp,PE (X.cmp N scope cl C s H fp) elt te)
    (hs:∀ x,foldedSetIterable iter X.env x=pure x:=by intro _;rfl):PE X (.ListComp elt [⟨tg,iter,ifs,0⟩] scope pos) (tComp k fr wi g tc te):=by
  intro pins s σ H Q I h
  rw [eval_ListComp]
  obtain ⟨cl,ecl,hcl,hcf⟩:=clos_get (scope:=scope) (env:=X.env) fun y hy=>I.ok.has y (.inl (S.fre2 y hy))
  refine wpAny_comprehension_free (use:=none) rfl hs ecl S.kind S.loc (thn (hit pins s σ H _ I h) fun v s1 h1=>thn h1 fun itv s2 h2=>?_)
  obtain ⟨it,fp,tn,J,H2,e,I2,T,st2,f2,W,⟨m0,w0⟩,turn⟩:=h2
  subst e
  refine cmp_block S F hc hg hk hi he I2 T st2 f2 w0 (Fin:=fun ys H'=>∀ D,H' D=none→Q (.ref D) (upd H' D (.lst ys))) turn hcl hcf (RR:=fun acc C=>compPost (model X.prog X.w) X.A X.xe none (EP X pins σ Q) acc C) ?_
  intro D C s' its n ys H' σ' hD hC hDC J' rv hz fin
  obtain ⟨hn,I'⟩:=cmp_back I2 f2 J' rv hz hD
  obtain ⟨m,hm,_⟩:=J'.loc
  exact ⟨m,hm,fun h' sb=>⟨.ref D,_,cmp_off I2 hC hDC J' I' sb,rfl,fin D hn⟩⟩
theorem ps_comp {i:Nat} {y:Str} {py spos:Pos} (hN:X.N.Nodup) (hi':X.N[i]?=some y) (hx:Loc X.env.scope y) (S:CmpScope X N scope) (F:CmpFree X N scope k fr) (hc:X.calm=true) (hit:PI X tg iter wi)
    (hg:∀ cl C s H fp,PG (X.cmp N scope cl C s H fp) tg g) (hk:GKeeps k g) (hi:∀ cl C s H fp,PF (X.cmp N scope cl C s H fp) ifs tc) (he:∀ cl C s H fp,PE (X.cmp N scope cl C s H fp) elt te)
    (hsw:swapsWith (.ListComp elt [⟨tg,iter,ifs,0⟩] scope pos) (some (.Name y py)) spos.line X.env=pure true)
    (hs:∀ x,foldedSetIterable iter X.env x=pure x:=by intro _;rfl) (hf:X.fn y=true∨X.env.scope.names.lookup y=some .local:=by first | exact .inl rfl | exact .inr rfl | assumption) :
    PS X (.Assign [.Name y py] (.ListComp elt [⟨tg,iter,ifs,0⟩] scope pos) spos) (tAsg (tComp k fr wi g tc te) (gName i)):=by
  intro pins s σ H D0 I h
  obtain ⟨cl,ecl,hcl,hcf⟩:=clos_get (scope:=scope) (env:=X.env) fun y hy=>I.ok.has y (.inl (S.fre2 y hy))
  rw [exec_Assign_Name_used _ _ _ _ hsw]
  refine wpAny_bind (wpAny_standAt (wpAny_bind ?_))
  show wpAny _ X.A (do let _ ← comprehension (.ListComp elt [⟨tg,iter,ifs,0⟩] scope pos) scope X.env _ (newList []) false (eval iter X.env) (some (assign (.Name y py) X.env))) _ _ s
  refine wpAny_bind (wpAny_mono (wpAny_comprehension_free (use:=some (assign (.Name y py) X.env)) (Q:=fun _ s'=>SP X pins D0 .next s') rfl hs ecl S.kind S.loc
    (thn (hit pins s σ H _ I h) fun v s1 h1=>thn h1 fun itv s2 h2=>?_)) (fun _ s' hq=>wpAny_pure (wpAny_pure hq)) fun _ _ e=>e)
  obtain ⟨it,fp,tn,J,H2,e,I2,T,st2,f2,W,⟨m0,w0⟩,turn⟩:=h2
  subst e
  refine cmp_block S F hc hg hk hi he I2 T st2 f2 w0 (Fin:=fun ys H'=>∀ D,H' D=none→D0.nx (σ.set i (some (.ref D))) (upd H' D (.lst ys))) turn hcl hcf
    (RR:=fun acc C=>compPost (model X.prog X.w) X.A X.xe (some (assign (.Name y py) X.env)) (fun _ s'=>SP X pins D0 .next s') acc C) ?_
  intro D C s' its n ys H' σ' hD hC hDC J' rv hz fin
  obtain ⟨hn,I'⟩:=cmp_back I2 f2 J' rv hz hD
  obtain ⟨m,hm,_⟩:=J'.loc
  show wpAny _ _ (assign (.Name y py) X.env (.ref D)) _ _ s'
  refine wpAny_assign_Name (store_ok2 I' hN hi' hx (v:=.ref D) rfl (fun s9 I9 ⟨a,sba,ha⟩=>?_) hf)
  have hCa:C≠a:=by
    rcases ha with z | z
    · rw [z];exact Nat.ne_of_gt (Nat.lt_of_lt_of_le I2.lt hC)
    · obtain ⟨v,q⟩:=I2.cell y a z
      exact fun z=>absurd (Nat.lt_of_lt_of_le q.lt (by rw [← z];exact hC)) (Nat.lt_irrefl _)
  exact ⟨m,hm.sameBut sba hCa,fun h' sb=>⟨_,_,cmp_off I2 hC hDC J' I9 sb,fin D hn⟩⟩
end
noncomputable def cmpOk (sc scope:Scope) (NX N:List Str) (k:Nat) (fr:List Nat):Bool :=
  scope.names.all (fun p=>p.2 != .cell)&&(scope.names.all (fun p=>p.2 != .local || scope.names.lookup p.1==some .local)&&(scope.names.all (fun p=>p.2 != .free || sc.names.lookup p.1==some .cell) &&
    (decide N.Nodup&&(N.length==k+fr.length&&(fr.zip (N.drop k)).all fun q=>NX[q.1]?==some q.2&&scope.names.lookup q.2==some .free))))
theorem cmpS {X:Cx} {sc scope:Scope} {NX N:List Str} {k:Nat} {fr:List Nat} (hX:X.env.scope=sc) (hk:scope.kind=.function) (h:cmpOk sc scope NX N k fr=true):CmpScope X N scope:=by
  unfold cmpOk at h
  simp only [Bool.and_eq_true,List.all_eq_true,decide_eq_true_eq] at h
  obtain ⟨h1,h2,h3,h4,h5,h6⟩:=h
  have f2:∀ y,(y,NameKind.free)∈scope.names→X.env.kindOf y=some .cell:=fun y hy=>by
    have:=h3 _ hy
    show X.env.scope.names.lookup y=some .cell
    rw [hX]
    simpa using this
  refine ⟨hk,fun y hy=>by simpa using h1 y hy,fun y hy e=>?_,fun y e=>f2 y (PySem.mem_of_lookup e),f2,h4,fun y e=>PySem.mem_of_lookup e⟩
  have:=h2 y hy
  rw [e] at this
  simpa using this
theorem cmpF {X:Cx} {sc scope:Scope} {NX N:List Str} {k:Nat} {fr:List Nat} (hN:X.N=NX) (h:cmpOk sc scope NX N k fr=true):CmpFree X N scope k fr:=by
  unfold cmpOk at h
  simp only [Bool.and_eq_true,List.all_eq_true,decide_eq_true_eq] at h
  obtain ⟨h1,h2,h3,h4,h5,h6⟩:=h
  refine ⟨by simpa using h5,fun j i y e1 e2=>?_⟩
  have hm:(i,y)∈fr.zip (N.drop k):=by
    refine List.mem_of_getElem? (i:=j) ?_
    rw [List.getElem?_zip_eq_some]
    exact ⟨e1,by rw [List.getElem?_drop];exact e2⟩
  have:=h6 _ hm
  rw [hN]
  simpa using this
section
variable {X:Cx} {elt iter:Expr} {ifs:List Expr} {scope:Scope} {pos px:Pos} {wi:TI} {tc:TT} {te:TE} {x:Str}
theorem cmp_nd {sc scope:Scope} {NX N:List Str} {k:Nat} {fr:List Nat} (h:cmpOk sc scope NX N k fr=true):N.Nodup:=by
  unfold cmpOk at h
  simp only [Bool.and_eq_true,decide_eq_true_eq] at h
  exact h.2.2.2.1
theorem pe_cmp1 (sc:Scope) (NX:List Str) (fs:List Str) (fr:List Nat) (hc:X.calm=true) (hit:PI X (.Name x px) iter wi) (hi:∀ cl C s H fp,PF (X.cmp (x::fs) scope cl C s H fp) ifs tc) (he:∀ cl C s H fp,PE (X.cmp (x::fs) scope cl C s H fp) elt te)
    (ok:cmpOk sc scope NX (x::fs) 1 fr=true) (hX:X.env.scope=sc:=by rfl) (hN:X.N=NX:=by rfl) (hk:scope.kind=.function:=by rfl) (hx:scope.names.lookup x=some .local:=by rfl)
    (hs:∀ x,foldedSetIterable iter X.env x=pure x:=by intro _;rfl):PE X (.ListComp elt [⟨.Name x px,iter,ifs,0⟩] scope pos) (tComp 1 fr wi (gName 0) tc te) :=
  pe_comp (cmpS hX hk ok) (cmpF hN ok) hc hit (fun cl C s H fp=>pg_name (i:=0) (cmp_nd ok) rfl (Or.inl (lookup_relabel_local hx)) (.inr (lookup_relabel_local hx))) (gk_name (by decide)) hi he hs
theorem ps_cmp1 (sc:Scope) (NX:List Str) (fs:List Str) (fr:List Nat) {i:Nat} {y:Str} {py spos:Pos} (hNd:X.N.Nodup) (hi':X.N[i]?=some y) (hy:Loc X.env.scope y) (hc:X.calm=true) (hit:PI X (.Name x px) iter wi)
    (hi:∀ cl C s H fp,PF (X.cmp (x::fs) scope cl C s H fp) ifs tc) (he:∀ cl C s H fp,PE (X.cmp (x::fs) scope cl C s H fp) elt te)
    (ok:cmpOk sc scope NX (x::fs) 1 fr=true) (hsw:swapsWith (.ListComp elt [⟨.Name x px,iter,ifs,0⟩] scope pos) (some (.Name y py)) spos.line X.env=pure true)
    (hX:X.env.scope=sc:=by rfl) (hN:X.N=NX:=by rfl) (hk:scope.kind=.function:=by rfl) (hx:scope.names.lookup x=some .local:=by rfl)
    (hs:∀ x,foldedSetIterable iter X.env x=pure x:=by intro _;rfl) (hf:X.fn y=true∨X.env.scope.names.lookup y=some .local:=by first | exact .inl rfl | exact .inr rfl | assumption) :
    PS X (.Assign [.Name y py] (.ListComp elt [⟨.Name x px,iter,ifs,0⟩] scope pos) spos) (tAsg (tComp 1 fr wi (gName 0) tc te) (gName i)) :=
  ps_comp hNd hi' hy (cmpS hX hk ok) (cmpF hN ok) hc hit (fun cl C s H fp=>pg_name (i:=0) (cmp_nd ok) rfl (Or.inl (lookup_relabel_local hx)) (.inr (lookup_relabel_local hx))) (gk_name (by decide)) hi he hsw hs hf
end
theorem comp_range {lo:Int} {n:Nat} {G:V→Hp→(List V→Hp→Prop)→List V→Prop} {Fin:List V→Hp→Prop} {H:Hp} (Pv:Nat→List V→Hp→Prop) (h0:Pv 0 [] H)
    (hs:∀ i ys H,i<n→Pv i ys H→ys.length<sizeLine∧G (.int (lo+i)) H (Pv (i+1)) ys) (hd:∀ ys H,Pv n ys H→Fin ys H) :
    ∃ W:Nat→Nat→List V→Hp→Prop,(∃ m,W 0 m [] H)∧∀ i m ys H,W i m ys H→
      ((Itr lo n).stop i H∧Fin ys H)∨((Itr lo n).go i H∧ys.length<sizeLine∧∃ Nx:List V→Hp→Prop,(∀ ys' H',Nx ys' H'→∃ m',m'<m∧W (i+1) m' ys' H')∧∀ x H',(Itr lo n).yld i H x H'→G x H' Nx ys):=by
  refine ⟨fun i m ys H=>m=n - i∧i≤n∧Pv i ys H,⟨n,by simp,Nat.zero_le _,h0⟩,?_⟩
  rintro i m ys H ⟨rfl,hi,p⟩
  by_cases hlt:i<n
  · obtain ⟨a1,a2⟩:=hs i ys H hlt p
    refine .inr ⟨hlt,a1,Pv (i+1),fun ys' H' p'=>⟨n - (i+1),by lia,rfl,hlt,p'⟩,fun x H' y=>?_⟩
    obtain ⟨e,y⟩:=y
    subst e y
    exact a2
  · have e:i=n:=by lia
    subst e
    exact .inl ⟨Nat.le_refl _,hd ys H p⟩
theorem comp_list {K:PySem.W.Frag} {a:Addr} {xs:List V} {G:V→Hp→(List V→Hp→Prop)→List V→Prop} {Fin:List V→Hp→Prop} {H:Hp} (Pv:Nat→List V→Hp→Prop) (h0:Pv 0 [] H) (hl:∀ i ys H,i≤xs.length→Pv i ys H→SqL K H a xs)
    (hs:∀ i x ys H,xs[i]?=some x→Pv i ys H→ys.length<sizeLine∧G x H (Pv (i+1)) ys) (hd:∀ ys H,Pv xs.length ys H→Fin ys H) :
    ∃ W:Nat→Nat→List V→Hp→Prop,(∃ m,W 0 m [] H)∧∀ i m ys H,W i m ys H→
      ((Itl K a).stop i H∧Fin ys H)∨((Itl K a).go i H∧ys.length<sizeLine∧∃ Nx:List V→Hp→Prop,(∀ ys' H',Nx ys' H'→∃ m',m'<m∧W (i+1) m' ys' H')∧∀ x H',(Itl K a).yld i H x H'→G x H' Nx ys):=by
  refine ⟨fun i m ys H=>m=xs.length - i∧i≤xs.length∧Pv i ys H,⟨xs.length,by simp,Nat.zero_le _,h0⟩,?_⟩
  rintro i m ys H ⟨rfl,hi,p⟩
  have q:=hl i ys H hi p
  by_cases hlt:i<xs.length
  · obtain ⟨a1,a2⟩:=hs i xs[i] ys H (by simp [hlt]) p
    refine .inr ⟨⟨xs,xs[i],q,by simp [hlt]⟩,a1,Pv (i+1),fun ys' H' p'=>⟨xs.length - (i+1),by lia,rfl,hlt,p'⟩,fun x H' y=>?_⟩
    obtain ⟨e,y⟩:=y
    subst e
    have hx:=y xs q
    rw [show xs[i]?=some xs[i] by simp [hlt]] at hx
    cases hx
    exact a2
  · have e:i=xs.length:=by lia
    subst e
    exact .inl ⟨⟨xs,q,Nat.le_refl _⟩,hd ys H p⟩
end L2
namespace L2
open PySem PySem.Spec PyProof.Rows
section
variable {X:Cx}
theorem call_isi:CallR X (.builtin "isinstance") (fun xs H Q=>∃ x t c b,xs=[x,.ty c]∧TyOf X.K H x t∧PySem.W.kitOne X.K t (.type c)=some b∧Q (.bl b) H):=by
  intro pins s σ H xs us Q I r h
  obtain ⟨x,t,c,b,rfl,ty,e,q⟩:=h
  obtain ⟨u,v,rfl,rx,ry⟩:=vals2 r
  cases ry
  exact isinst_ok I rx ty e fun tk=>⟨.bl b,H,I.tok tk,rfl,q⟩
theorem seen {pins:List (Addr×Obj)} {σ:St} {H:Hp} {s:Shared} {l:Addr} {h':Heap} {tk:Nat} (I:Inv X pins σ H s) (hk:∀ b o,b∉[s.heap.objs.size]→(s.heap.push {cls:=.type "list_iterator",data:=.fields #[.ref l,.int 0 0]}).get? b=some o→h'.get? b=some o) :
    Inv X pins σ H {s with heap:=h',toks:=tk}:=I.kept (old_kept hk)
theorem all_range {bs:List Bool}:((List.range bs.length).all fun i=>(bs[i]?).getD true)=bs.all id:=by
  induction bs with
  | nil=>rfl
  | cons b r ih =>
    rw [List.length_cons,List.range_succ_eq_map,List.all_cons,List.all_map,List.all_cons]
    congr 1
theorem call_all (hc:X.calm=true):CallR X (.builtin "all") (fun xs H Q=>∃ (p:Addr) (bs:List Bool),xs=[.ref p]∧SqL X.K H p (bs.map V.bl)∧Q (.bl (bs.all id)) H):=by
  intro pins s σ H xs us Q I r h
  obtain ⟨p,bs,rfl,hq,q⟩:=h
  obtain ⟨u,rfl,rx⟩:=vals1 r
  cases rx
  obtain ⟨its,rv,pl,hz⟩:=I.list hq
  have hl:=pl.isList
  have hlt:p<s.heap.objs.size:=by obtain ⟨_,e,_⟩:=hl;exact Heap.lt_size e
  have hn:its.toArray.size=bs.length:=by rw [List.size_toArray,← rv.length,List.length_map]
  refine call_all_walk (wpAny_pyIter_list hl ?_)
  refine ⟨_,_,_,_,_,_,fun i=>(bs[i]?).getD true,rfl,Walks.list (A:=X.A.in1) (I.ok.hd hc) s.heap.objs.size p (Nat.ne_of_lt hlt) its.toArray,⟨⟨_,Heap.get?_push_size _ rfl,rfl,rfl⟩,hl.push _⟩,?_,fun h' tk hk=>?_⟩
  · intro i v s' Q' E' hP hQ
    have hv:its[i]?=some v:=by simpa using hP
    cases eb:bs[i]? with
    | none =>
      have:=rv.none_of (i:=i) (by rw [List.getElem?_map,eb];rfl)
      rw [this] at hv;cases hv
    | some b =>
      obtain ⟨u,hu,ru⟩:=rv.get (i:=i) (x:=.bl b) (by rw [List.getElem?_map,eb];rfl)
      rw [hu] at hv;cases hv
      cases ru
      refine wpAny_truthy_bool ?_
      have e:(bs[i]?).getD true=b:=by rw [eb];rfl
      rw [← e];exact hQ
  · rw [hn,all_range]
    exact ⟨.bl _,H,(show Inv X pins σ H {s with heap:=h',toks:=tk} from seen I hk),rfl,q⟩
theorem pre_take (ns:List Int):∀ k,k≤ns.length→preSum (fun i=>(ns[i]?).getD 0) k=(ns.take k).sum
  | 0,_=>by simp [preSum]
  | k+1,h=>by
    have e:ns[k]?=some (ns[k]'(by lia)):=by simp
    rw [preSum,pre_take ns k (by lia),List.take_add_one,e,List.sum_append]
    simp
theorem sum_bound {B:Int}:∀ (ns:List Int),(∀ n∈ns,-B≤n∧n≤B)→-(ns.length*B)≤ns.sum∧ns.sum≤ns.length*B
  | [],_=>by simp
  | n::r,h=>by
    have h1:=h n (by simp)
    have h2:=sum_bound r fun m hm=>h m (List.mem_cons_of_mem _ hm)
    rw [List.sum_cons,List.length_cons]
    have e:((r.length+1:Nat):Int)*B=r.length*B+B:=by rw [Int.natCast_add,Int.add_mul];simp
    lia
theorem call_sumL (hc:X.calm=true):CallR X (.builtin "sum") (fun xs H Q=>∃ (p:Addr) (ns:List Int),xs=[.ref p]∧SqL X.K H p (ns.map V.int)∧(ns.length≤1000∧∀ n∈ns,-1000000000≤n∧n≤1000000000)∧Q (.int ns.sum) H):=by
  intro pins s σ H xs us Q I r h
  obtain ⟨p,ns,rfl,hq,⟨hb0,hb⟩,q⟩:=h
  obtain ⟨u,rfl,rx⟩:=vals1 r
  cases rx
  obtain ⟨its,rv,pl,hz⟩:=I.list hq
  have hl:=pl.isList
  have hlt:p<s.heap.objs.size:=by obtain ⟨_,e,_⟩:=hl;exact Heap.lt_size e
  have hn:its.toArray.size=ns.length:=by rw [List.size_toArray,← rv.length,List.length_map]
  refine call_sum_walk (wpAny_pyIter_list hl ?_)
  refine ⟨_,_,_,_,_,_,fun i=>(ns[i]?).getD 0,rfl,Walks.list (A:=X.A.in1) (I.ok.hd hc) s.heap.objs.size p (Nat.ne_of_lt hlt) its.toArray,⟨⟨_,Heap.get?_push_size _ rfl,rfl,rfl⟩,hl.push _⟩,fun b hb'=>?_,fun i v hP=>?_,fun j hj=>?_,fun h' tk t' hk=>?_⟩
  · show b<(s.heap.push _).objs.size
    rw [Heap.size_push]
    rcases List.mem_cons.mp hb' with rfl | hb'
    · exact Nat.lt_succ_self _
    · have e:b=p:=by simpa using hb'
      rw [e];exact Nat.lt_succ_of_lt hlt
  · have hv:its[i]?=some v:=by simpa using hP
    cases eb:ns[i]? with
    | none =>
      have:=rv.none_of (i:=i) (by rw [List.getElem?_map,eb];rfl)
      rw [this] at hv;cases hv
    | some b =>
      obtain ⟨u,hu,ru⟩:=rv.get (i:=i) (x:=.int b) (by rw [List.getElem?_map,eb];rfl)
      rw [hu] at hv;cases hv
      obtain ⟨t,rfl⟩:=ru
      exact ⟨t,by simp [eb]⟩
  · rw [hn] at hj
    have e:ns[j]?=some ns[j]:=by simp [hj]
    have b1:=hb ns[j] (List.getElem_mem hj)
    have b2:=sum_bound (B:=1000000000) (ns.take (j+1)) fun m hm=>hb m (List.mem_of_mem_take hm)
    rw [pre_take ns (j+1) (by lia)]
    have e3:(ns.take (j+1)).length=j+1:=by rw [List.length_take];lia
    rw [e3] at b2
    refine ⟨⟨?_,?_⟩,?_,?_⟩
    · show _≤(ns[j]?).getD 0
      rw [e];show _≤ns[j];lia
    · show (ns[j]?).getD 0<_
      rw [e];show ns[j]<_;lia
    · lia
    · lia
  · rw [hn,pre_take ns ns.length (Nat.le_refl _),List.take_length]
    exact ⟨.int _,H,(show Inv X pins σ H {s with heap:=h',toks:=tk} from seen I hk),⟨_,rfl⟩,q⟩
noncomputable def DatV (P:Program) (w:World) (H:Hp) (x:V) (d:PyData):Prop:=∀ (h:Heap) (v:Value),HOk P w H h→RelV x v→∃ as,Reads h v d as
section
variable {P:Program} {w:World} {H:Hp}
theorem datI (i:Int):DatV P w H (.int i) (.int i):=fun h v _ r=>by obtain ⟨t,rfl⟩:=r;exact ⟨_,.int i t⟩
theorem datN:DatV P w H .non .none:=fun h v _ r=>by cases r;exact ⟨_,.none⟩
theorem dats {h:Heap} (ok:HOk P w H h) {xs:List V} {its:List Value} {ds:List PyData} (a:Vals xs its) (b:Paired (DatV P w H) xs ds):∃ as,ReadsAll h its ds as:=by
  induction a generalizing ds with
  | nil=>cases b;exact ⟨_,.nil⟩
  | cons r t ih =>
    cases b with
    | cons q u =>
      obtain ⟨as,h1⟩:=q _ _ ok r
      obtain ⟨bs,h2⟩:=ih u
      exact ⟨_,.cons h1 h2⟩
theorem datL {a:Addr} {xs:List V} {ds:List PyData} (e:H a=some (.lst xs)) (r:Paired (DatV P w H) xs ds):DatV P w H (.ref a) (.list ds):=fun h v ok rv=>by
  cases rv
  obtain ⟨_,its,n,rs,e1⟩:=ok a _ e
  obtain ⟨as,h1⟩:=dats ok rs r
  exact ⟨_,.list e1 rfl rfl (by simpa using h1)⟩
theorem datT {a:Addr} {xs:List V} {ds:List PyData} (e:H a=some (.tup xs)) (r:Paired (DatV P w H) xs ds):DatV P w H (.ref a) (.tuple ds):=fun h v ok rv=>by
  cases rv
  obtain ⟨_,its,rs,o,e1,c,n,d⟩:=ok a _ e
  obtain ⟨as,h1⟩:=dats ok rs r
  exact ⟨_,.tuple e1 c d (by simpa using h1)⟩
theorem datIs:∀ ns:List Int,Paired (DatV P w H) (ns.map V.int) (ns.map PyData.int)
  | []=>.nil
  | n::r=>.cons (datI n) (datIs r)
end
theorem lays:∀ ns:List Int,PyData.canLayAll0 (ns.map PyData.int)=true
  | []=>rfl
  | n::r=>by
    rw [List.map_cons,PyData.canLayAll0,lays r]
    rfl
theorem depths:∀ ns:List Int,PyData.depthAll (ns.map PyData.int)=0
  | []=>rfl
  | n::r=>by
    rw [List.map_cons,PyData.depthAll,depths r]
    rfl
noncomputable def rEqD (P:Program) (w:World) (neg:Bool):R2:=fun x y H Q=>∃ dx dy,DatV P w H x dx∧DatV P w H y dy∧(dx.canLay0=true∧dy.canLay0=true∧dx.depth≤60)∧Q (.bl (if neg=true then !PyData.eqv dx dy else PyData.eqv dx dy)) H
theorem op_eqD (hu:X.A.units+64<cLine):OpR X (compareOp .Eq) (rEqD X.prog X.w false):=by
  intro pins s σ H x y v u Q I rx ry h
  obtain ⟨dx,dy,h1,h2,⟨c1,c2,c3⟩,q⟩:=h
  obtain ⟨as,r1⟩:=h1 _ _ I.hok rx
  obtain ⟨bs,r2⟩:=h2 _ _ I.hok ry
  refine SeqAt.compareEq_reads r1 r2 c1 c2 ?_ ⟨.bl _,H,I,rfl,q⟩
  have:min dx.depth dy.depth≤dx.depth:=Nat.min_le_left _ _
  lia
theorem op_neD (hu:X.A.units+64<cLine):OpR X (compareOp .NotEq) (rEqD X.prog X.w true):=by
  intro pins s σ H x y v u Q I rx ry h
  obtain ⟨dx,dy,h1,h2,⟨c1,c2,c3⟩,q⟩:=h
  obtain ⟨as,r1⟩:=h1 _ _ I.hok rx
  obtain ⟨bs,r2⟩:=h2 _ _ I.hok ry
  refine SeqAt.compareNe_reads r1 r2 c1 c2 ?_ ⟨.bl _,H,I,rfl,q⟩
  have:min dx.depth dy.depth≤dx.depth:=Nat.min_le_left _ _
  lia
theorem eq_self {P:Program} {w:World} {neg:Bool} {x y:V} {H:Hp} {Q:VK} {d:PyData} (h1:DatV P w H x d) (h2:DatV P w H y d) (c1:d.canLay0=true) (c2:d.depth≤60) (q:Q (.bl (!neg)) H):rEqD P w neg x y H Q:=by
  refine ⟨d,d,h1,h2,⟨c1,c1,c2⟩,?_⟩
  rw [SeqAt.eqv_refl d c1]
  cases neg <;> exact q
end
end L2
namespace L2
open PySem PySem.Spec PyProof.Rows
theorem no_len_rev:typeLookup (.type "list_reverseiterator") "__len__"=pure none:=by rw [typeLookup_type,builtinLookup_eq_fast];kernel_rfl
theorem hint_rev:typeLookup (.type "list_reverseiterator") "__length_hint__"=pure (some (.builtin "list_reverseiterator.__length_hint__")):=by rw [typeLookup_type,builtinLookup_eq_fast];kernel_rfl
theorem sub_lri_self:isSubtype (.type "list_reverseiterator") (.type "list_reverseiterator")=pure true:=by rw [isSubtype_type];kernel_rfl
section
variable {prog:Program} {w:World} {A:Around} {s:Shared}
theorem no_room_rev {E:Value→Shared→Prop} {J l:Addr} {i:Int} {Q:Bool→Shared→Prop} (hit:s.heap.IsRevIter J l i) (h:Q false s):wpAny (model prog w) A (Builtin.List.listLengthHint (.ref J)) Q E s:=by
  unfold Builtin.List.listLengthHint
  refine wpAny_bind (wpAny_specialOf hit.typeIs no_len_rev ?_)
  show wpAny _ A (specialOf (Value.ref J) (Str.ofString "__length_hint__")>>=_) _ _ _
  refine wpAny_bind (wpAny_specialOf hit.typeIs hint_rev ?_)
  generalize hid:("list_reverseiterator.__length_hint__":String)=id0
  wp_delta
  rw [show splitId id0=some ("list_reverseiterator","__length_hint__") from by subst hid;decide +kernel]
  subst hid
  refine wpAny_bind (wpAny_isInstance (T:="list_reverseiterator") (b:=true) hit.typeIs sub_lri_self ?_)
  refine wpAny_ite_split (fun hab=>absurd hab (by decide)) (fun _=>?_)
  refine wpAny_ite_split (fun _=>?_) (fun hab=>absurd (by decide +kernel) hab)
  refine wpAny_ite_split (fun hab=>absurd hab (by decide +kernel)) (fun _=>?_)
  exact wpAny_pure h
theorem extend_rev {R:Result→Shared→Prop} {J l:Addr} {items:Array Value} (hh:A.handled=none) (hne:l≠J) (hit:s.heap.IsRevIter J l ((items.size:Int) - 1)) (hl:s.heap.IsList l items) (hz:items.size≤sizeLine) (S:Addr) (res:Value) (c0:Nat)
    (hS:s.heap.get? S=some {cls:=.type "list",data:=.seq #[] c0}) (hSJ:S≠J) (hSl:S≠l)
    (hR:∀ h' tk acc c',(∀ b o,b≠S→b≠J→s.heap.get? b=some o→h'.get? b=some o)→h'.get? S=some {cls:=.type "list",dict:=none,data:=.seq acc c',slots:=#[]}→
      ItemsOf (fun i v=>items[items.size - 1 - i]?=some v) acc items.size→R (.ok (.ret res)) {s with heap:=h',toks:=tk}) :
    wpAny (model prog w) A.in1 (Builtin.List.listExtendWith (.ref S) (.ref J) res)
      (fun fin s'=>match fin with | .done f=>R (.ok f) s' | .again c'=>c'.quiet=true∧codeAny (model prog w) A c' R s') (fun e s'=>R (.error e) s') s:=by
  have W:=(Walks.listRev (prog:=prog) (w:=w) (A:=A.in1) hh J l hne items).toS
  have hSf:S∉[J,l]:=fun hm=>by
    rcases List.mem_cons.mp hm with e | hm
    · exact hSJ e
    · exact hSl (by simpa using hm)
  unfold Builtin.List.listExtendWith
  refine wpAny_bind (wpAny_typeOf hit.typeIs ?_)
  have h1:Builtin.List.listSameRef (.ref S) (.ref J)=false:=by simp [Builtin.List.listSameRef,hSJ]
  have h2:(Value.type "list_reverseiterator"==Value.type "list")=false:=by decide
  have h3:(Value.type "list_reverseiterator"==Value.type "tuple")=false:=by decide
  simp only [h1,h2,h3,Bool.or_false,Bool.false_eq_true,if_false]
  refine wpAny_bind (wpAny_pyIter_revIter hit ?_)
  refine wpAny_bind (wpAny_holding (no_room_rev hit ?_))
  refine wpAny_ite_split (fun hab=>absurd hab (by decide)) (fun _=>?_)
  refine wpAny_pure ⟨plainId_quiet F.plain_extend_loop _,?_⟩
  refine codeAny_extend_loopS W hz S hSf res items.size 0 s #[] c0 rfl (Nat.zero_le _) ⟨Nat.zero_le _,by simpa using hit,hl⟩ hS (ItemsOf.nil _) fun s' acc' c' hm hS' hacc=>?_
  rw [Moved.eq_with hm]
  refine hR s'.heap s'.toks acc' c' (fun b o hb hb2 e=>hm.heap b o (fun z=>?_) e) hS' hacc
  rcases List.mem_cons.mp z with z | z
  · exact hb z
  · exact hb2 (by simpa using z)
theorem init_rev {R:Result→Shared→Prop} {J l:Addr} {items:Array Value} (hh:A.handled=none) (hne:l≠J) (hit:s.heap.IsRevIter J l ((items.size:Int) - 1)) (hl:s.heap.IsList l items) (hz:items.size≤sizeLine) (S:Addr)
    (hS:s.heap.get? S=some {cls:=.type "list",data:=.seq #[]}) (hSJ:S≠J) (hSl:S≠l)
    (hR:∀ h' tk acc c',(∀ b o,b≠S→b≠J→s.heap.get? b=some o→h'.get? b=some o)→h'.get? S=some {cls:=.type "list",dict:=none,data:=.seq acc c',slots:=#[]}→
      ItemsOf (fun i v=>items[items.size - 1 - i]?=some v) acc items.size→R (.ok (.ret .none)) {s with heap:=h',toks:=tk}) :
    wpAny (model prog w) A.in1 (Builtin.«list.__init__» ⟨[.ref S,.ref J],[]⟩)
      (fun fin s'=>match fin with | .done f=>R (.ok f) s' | .again c'=>c'.quiet=true∧codeAny (model prog w) A c' R s') (fun e s'=>R (.error e) s') s:=by
  show wpAny _ _ (do let old ← Builtin.List.listItems (.ref S);Builtin.List.listUpdate (.ref S) (fun _=>#[]);letGo old.toList.reverse;Builtin.List.listExtendWith (.ref S) (.ref J) .none) _ _ s
  refine wpAny_bind ?_
  unfold Builtin.List.listItems
  refine wpAny_bind (wpAny_seqItems hS rfl (wpAny_pure ?_))
  show wpAny _ _ (updateSeq S (fun _=>#[])>>=fun _=>letGo (#[]:Array Value).toList.reverse>>=fun _=>Builtin.List.listExtendWith (.ref S) (.ref J) .none) _ _ s
  refine wpAny_bind (wpAny_updateSeq hS rfl ?_)
  have g2:=Heap.get?_update_self (Obj.mapSeq (fun _=>(#[]:Array Value))) hS rfl
  have oth:∀ b o,b≠S→s.heap.get? b=some o→(s.heap.update S (Obj.mapSeq (fun _=>(#[]:Array Value)))).get? b=some o :=
    fun b o hb e=>(Heap.get?_update_other _ _ (Ne.symm hb)).trans e
  refine wpAny_bind (wpAny_letGo ?_)
  refine extend_rev hh hne (hit.at fun o e=>oth J o (Ne.symm hSJ) e) (hl.at fun o e=>oth l o (Ne.symm hSl) e) hz S .none _ g2 hSJ hSl fun h' tk acc' c' hk hS' hacc=>?_
  exact hR h' tk acc' c' (fun b o hb hb2 e=>hk b o hb hb2 (oth b o hb e)) hS' hacc
theorem list_rev {E:Value→Shared→Prop} {Q:Value→Shared→Prop} {J l:Addr} {items:Array Value} (hh:A.handled=none) (hne:l≠J) (hit:s.heap.IsRevIter J l ((items.size:Int) - 1)) (hl:s.heap.IsList l items) (hz:items.size≤sizeLine)
    (hQ:∀ h' tk acc c',(∀ b o,b≠J→s.heap.get? b=some o→h'.get? b=some o)→h'.get? s.heap.objs.size=some {cls:=.type "list",dict:=none,data:=.seq acc c',slots:=#[]}→
      ItemsOf (fun i v=>items[items.size - 1 - i]?=some v) acc items.size→Q (.ref s.heap.objs.size) {s with heap:=h',toks:=tk}) :
    wpAny (model prog w) A (call (.type "list") [.ref J]) Q E s:=by
  have ltJ:J<s.heap.objs.size:=by obtain ⟨o,e,_⟩:=hit;exact Heap.lt_size e
  have ltl:l<s.heap.objs.size:=by obtain ⟨o,e,_⟩:=hl;exact Heap.lt_size e
  refine callType_codes (Q₁:=fun obj s1=>obj=.ref s.heap.objs.size∧s1={s with heap:=s.heap.push {cls:=.type "list",data:=.seq #[]}}) F.called_list (F.typeCall_list_1 _) F.entry_list_init
    (code_list_new _ ⟨rfl,rfl⟩) fun obj s1 h1=>?_
  obtain ⟨rfl,rfl⟩:=h1
  have hS:(s.heap.push {cls:=.type "list",data:=.seq #[]}).get? s.heap.objs.size=some {cls:=.type "list",data:=.seq #[]}:=Heap.get?_push_size _ rfl
  refine ⟨⟨_,hS,rfl⟩,F.args_list_init_2 _ _,init_rev (A:=A.in1) hh hne (hit.at fun o e=>Heap.get?_push_of_some _ e) (hl.at fun o e=>Heap.get?_push_of_some _ e) hz _ hS (Nat.ne_of_gt ltJ) (Nat.ne_of_gt ltl) fun h' tk acc' c' hk hS' hacc=>?_⟩
  exact ⟨rfl,hQ h' tk acc' c' (fun b o hb e=>hk b o (Nat.ne_of_lt (Heap.lt_size e)) hb (Heap.get?_push_of_some _ e)) hS' hacc⟩
end
section
variable {X:Cx} {e:Expr} {te:TE}
noncomputable def tLRev (K:PySem.W.Frag) (te:TE):TE:=fun σ H Q=>te σ H fun x H1=>∃ a xs,x=.ref a∧SqL K H1 a xs∧∀ p,H1 p=none→Q (.ref p) (upd H1 p (.lst xs.reverse))
theorem items_rev {its:List Value} {acc:Array Value} (h:ItemsOf (fun i v=>its.toArray[its.toArray.size - 1 - i]?=some v) acc its.toArray.size):acc.toList=its.reverse:=by
  obtain ⟨h0,h2⟩:=h
  have h1:acc.size=its.length:=by rw [h0];simp
  apply List.ext_getElem?
  intro i
  by_cases hi:i<acc.size
  · have e:=h2 i acc[i] (by simp [hi])
    have e':its[its.length - 1 - i]?=some acc[i]:=by simpa using e
    rw [List.getElem?_reverse (by lia),e']
    simp [hi]
  · rw [List.getElem?_eq_none (by simpa using hi),List.getElem?_eq_none (by rw [List.length_reverse];lia)]
theorem pe_lrev {p1 p2 q1 q2:Pos} (hc:X.calm=true) (hm1:X.mg "list"=none) (hm2:X.mg "reversed"=none) (hg1:Gl X "list") (hg2:Gl X "reversed") (he:PE X e te) (h1:starEach [e] X.env=[(false,eval e X.env)]:=by rfl) :
    PE X (.Call (.Name "list" p1) [.Call (.Name "reversed" p2) [e] [] q2] [] q1) (tLRev X.K te):=by
  intro pins s σ H Q I h
  refine wpAny_Call_Name_kw (ld_blt I hg1 hm1 boot_list ?_)
  refine PyProof.Rows.callWith_type1 ?_ rfl rfl
  show wpAny _ _ (spliced ((false,eval (.Call (.Name "reversed" p2) [e] [] q2) X.env)::backTo q1 (starEach [] X.env))) _ _ s
  refine Calls.spliced_cons ?_
  refine wpAny_Call_Name_kw (ld_blt I hg2 hm2 boot_reversed ?_)
  refine PyProof.Rows.callWith_type1 ?_ h1 rfl
  rw [h1]
  show wpAny _ _ (spliced ((false,eval e X.env)::backTo q2 (starEach [] X.env))) _ _ s
  refine Calls.spliced_cons (thn (he pins s σ H _ I h) fun u s1 ⟨x,H1,I1,r1,q1⟩=>?_)
  obtain ⟨a,xs,rfl,hq,q⟩:=q1
  cases r1
  obtain ⟨its,rv,pl,hz⟩:=I1.list hq
  have hl:=pl.isList
  have hlen:=rv.length
  have ltl:a<s1.heap.objs.size:=by obtain ⟨o,e,_⟩:=hl;exact Heap.lt_size e
  refine Calls.spliced_nil ?_
  refine call_reversed_list hl ?_
  refine Calls.spliced_nil ?_
  refine list_rev (items:=its.toArray) (I1.ok.hd hc) (Nat.ne_of_lt ltl) ⟨_,Heap.get?_push_size _ rfl,rfl,rfl⟩ (hl.at fun o e=>Heap.get?_push_of_some _ e) (by rw [List.size_toArray];lia) fun h' tk acc c' hk hS hacc=>?_
  have eS:(s1.heap.push (revObj a ((its.toArray.size:Int) - 1))).objs.size=s1.heap.objs.size+1:=Heap.size_push ..
  have hnew:s1.heap.objs.size≤(s1.heap.push (revObj a ((its.toArray.size:Int) - 1))).objs.size:=by rw [eS];exact Nat.le_succ _
  have ea:=items_rev hacc
  refine ⟨.ref _,_,I1.laid (t':=tk) (o:=.lst xs.reverse) (fun b o e=>hk b o (Nat.ne_of_lt (Heap.lt_size e)) (Heap.get?_push_of_some _ e)) hnew ⟨by rw [List.length_reverse];exact hz,its.reverse,c',rv.reverse,?_⟩,rfl,q _ (I1.hok.fresh hnew)⟩
  rw [hS,← ea]
end
end L2
namespace L2
open PySem PySem.Spec PyProof.Rows
section
variable {X:Cx} {pins:List (Addr×Obj)} {σ:St} {H:Hp} {s:Shared} {h':Heap}
theorem Inv.turnedNew {ch:List Addr} {T:Addr} {o:HO} {t':Nat} (I:Inv X pins σ H s) (k:∀ b u,b∉ch→s.heap.get? b=some u→h'.get? b=some u) (hf:∀ b∈ch,FpOk X pins H b) (hT:s.heap.objs.size≤T)
    (new:ObjOk X.prog X.w (upd H T o) h' T o):Inv X pins σ (upd H T o) {s with heap:=h',toks:=t'}:=by
  have hn:=I.hok.fresh hT
  have lt:∀ b u,s.heap.get? b=some u→b≠T:=fun b u e=>Nat.ne_of_lt (Nat.lt_of_lt_of_le (Heap.lt_size e) hT)
  have tr:∀ b u,H b=some u→b∉ch:=fun b u e hb=>by
    obtain ⟨f0,_⟩:=hf b hb
    rw [e] at f0;cases f0
  refine I.step (g':=s.gens) (d':=s.drawn) (ch:=ch) (fun b hb=>?_) (fun b u _ _ hc e _=>k b u hc e) (fun b u _ _ hc e _=>⟨u.slots,k b u hc e⟩) (fun b u _ e n=>by rw [upd_ne (lt b u e)];exact n)
    (fun b u hc e=>⟨u,k b u hc e⟩) (fun b xs e=>by rw [upd_ne (ne_of_none e hn)];exact e) (fun b u x e=>by rw [upd_ne (ne_of_none e hn)];exact e) (fun b ps e=>⟨#[],by rw [upd_ne (ne_of_none e hn),e];simp⟩) (fun m hm=>?_) (fun b u e=>?_) I.bare
  · obtain ⟨_,f1,_,f3,f4,f5⟩:=hf b hb
    exact ⟨f3,f1,f4,f5⟩
  · obtain ⟨u,es,ep,hu,r⟩:=hm
    exact ⟨u,es,ep,k _ u (fun z=>(hf _ z).2.1 rfl) hu,r⟩
  · by_cases hb:b=T
    · subst hb
      rw [upd_same] at e;cases e
      exact new
    · rw [upd_ne hb] at e
      refine (I.hok b u e).stay (fun c v hc q=>k c v ?_ q) (fun c q=>by rw [upd_ne (ne_of_none q hn)];exact q) fun c xs q=>by rw [upd_ne (ne_of_none q hn)];exact q
      rcases hc with rfl | hc
      · exact tr _ _ e
      · exact tr _ _ hc
theorem Inv.turnedL {ch:List Addr} {t':Nat} (I:Inv X pins σ H s) (k:∀ b u,b∉ch→s.heap.get? b=some u→h'.get? b=some u) (hf:∀ b∈ch,FpOk X pins H b):Inv X pins σ H {s with heap:=h',toks:=t'}:=by
  have tr:∀ b u,H b=some u→b∉ch:=fun b u e hb=>by
    obtain ⟨f0,_⟩:=hf b hb
    rw [e] at f0;cases f0
  refine I.step (g':=s.gens) (d':=s.drawn) (ch:=ch) (fun b hb=>?_) (fun b u _ _ hc e _=>k b u hc e) (fun b u _ _ hc e _=>⟨u.slots,k b u hc e⟩) (fun _ _ _ _ n=>n)
    (fun b u hc e=>⟨u,k b u hc e⟩) (fun _ _ e=>e) (fun _ _ _ e=>e) (fun b ps e=>⟨#[],by rw [e];simp⟩) (fun m hm=>?_) (fun b u e=>?_) I.bare
  · obtain ⟨_,f1,_,f3,f4,f5⟩:=hf b hb
    exact ⟨f3,f1,f4,f5⟩
  · obtain ⟨u,es,ep,hu,r⟩:=hm
    exact ⟨u,es,ep,k _ u (fun z=>(hf _ z).2.1 rfl) hu,r⟩
  · refine (I.hok b u e).stay (fun c v hc q=>k c v ?_ q) (fun _ q=>q) fun _ _ q=>q
    rcases hc with rfl | hc
    · exact tr _ _ e
    · exact tr _ _ hc
end
noncomputable def Ite (K:PySem.W.Frag) (a:Addr):It :=
  ⟨fun i H=>∃ xs x,SqL K H a xs∧xs[i]?=some x,fun i H v H'=>∃ t x,v=.ref t∧H t=none∧(∀ xs,SqL K H a xs→xs[i]?=some x)∧H'=upd H t (.tup [.int i,x]),fun i H=>∃ xs,SqL K H a xs∧xs.length≤i⟩
theorem turn_enum {P:Program} {w:World} {K:PySem.W.Frag} {elts:List Expr} {x1} {pos:Pos} (a e it:Addr) (hne:e≠it):Turn P w K (.Tuple elts x1 pos) (Ite K a) [e,it] e (fun i h=>(∃ old,IsEnum h e it i old)∧h.IsListIter it a i) where
  mem:=by simp
  obj:=fun i h st b hb=>by
    obtain ⟨⟨old,h1⟩,o,h2,_,d⟩:=st
    rcases List.mem_cons.mp hb with rfl | hb
    · exact ⟨_,h1,fun v z=>by cases z⟩
    · have z:b=it:=by simpa using hb
      subst z
      exact ⟨o,h2,fun v z=>by rw [d] at z;cases z⟩
  keep:=fun i h h' st k=>by
    obtain ⟨⟨old,h1⟩,h2⟩:=st
    exact ⟨⟨old,k e (by simp) _ h1⟩,h2.at fun o q=>k it (by simp) o q⟩
  item:=by
    intro X hP hw hK hc i pins s σ H E I hf st hg
    subst hP hw hK
    obtain ⟨⟨old,h1⟩,h2⟩:=st
    obtain ⟨xs,x,hq,hx⟩:=hg
    obtain ⟨its,rv,p,hz⟩:=I.list hq
    obtain ⟨u,hu,ru⟩:=rv.get hx
    have e1:=Heap.lt_size h1
    refine wpAny_pyNext_enum_item h1 h2 p.isList (x:=u) (by simpa using hu) hne fun h' g1 g2 g3 g4 g5=>⟨_,rfl,?_⟩
    refine wpAny_letOwnedTupleGo_enum g1 fun h2' g6 g7=>?_
    have kk:∀ b o,b∉[e,it]→s.heap.get? b=some o→h2'.get? b=some o:=fun b o hb q=>g7.extBut b o (fun z=>hb (by simp [z])) (g5 b o (fun z=>hb (by simp [z])) (fun z=>hb (by simp [z])) q)
    have tT:h2'.get? s.heap.objs.size=some {cls:=.type "tuple",data:=.seq #[.int i s.toks,u]}:=g7.extBut _ _ (Nat.ne_of_gt e1) g3
    have I1:=I.turnedNew (t':=s.toks+1) (T:=s.heap.objs.size) (o:=.tup [.int i,x]) kk hf (Nat.le_refl _) ⟨by show 2≤sizeLine;decide,[.int i s.toks,u],.cons ⟨_,rfl⟩ (.cons ru .nil),⟨_,tT,rfl,_,rfl⟩⟩
    have hn:H s.heap.objs.size=none:=I.hok.fresh (Nat.le_refl _)
    refine ⟨.ref s.heap.objs.size,_,I1,rfl,⟨_,x,rfl,hn,fun ys hy=>by rw [I.list_inj hy hq];exact hx,rfl⟩,⟨⟨u,?_⟩,?_⟩,fun b hb=>?_⟩
    · have z:((i+1:Nat):Int)=(i:Int)+1:=by lia
      rw [z];exact g6
    · exact g2.extBut g7.extBut (Ne.symm hne)
    · obtain ⟨f0,_⟩:=hf b hb
      obtain ⟨o,q⟩:∃ o,s.heap.get? b=some o:=by
        rcases List.mem_cons.mp hb with rfl | hb
        · exact ⟨_,h1⟩
        · have z:b=it:=by simpa using hb
          obtain ⟨o,q,_⟩:=h2
          exact ⟨o,by rw [z];exact q⟩
      rw [upd_ne (Nat.ne_of_lt (Heap.lt_size q))];exact f0
  done:=by
    intro X hP hw hK hc i pins s σ H E I hf st hg
    subst hP hw hK
    obtain ⟨⟨old,h1⟩,h2⟩:=st
    obtain ⟨xs,hq,hx⟩:=hg
    obtain ⟨its,rv,p,hz⟩:=I.list hq
    have hl:=rv.length
    exact wpAny_pyNext_enum_end (I.ok.hd hc) h1 h2 p.isList (by simp;lia) fun h' eb=>⟨rfl,I.turnedL (t':=s.toks) (ch:=[e,it]) (fun b o hb q=>eb b o (fun z=>hb (by simp [z])) q) hf⟩
  self:=fun _ _ _ _ _ st h=>by
    obtain ⟨⟨old,h1⟩,h2⟩:=st
    have hT:Shared.TypeIs _ (.ref e) "enumerate":=⟨_,h1,rfl⟩
    refine wpAny_pyIter_slot hT F.slot_enumerate_iter (wpAny_call_entry F.slot_enumerate_iter hT F.entry_enumerate_iter ?_ (F.args_enumerate_iter_1 _))
    show wpAny _ _ (ret (.ref e)) _ _ _
    exact wpAny_pure ⟨_,rfl,"enumerate",_,hT,F.slot_enumerate_next.lookup,h⟩
noncomputable def Itz (K:PySem.W.Frag) (a b:Addr):It :=
  ⟨fun i H=>∃ xs ys x y,SqL K H a xs∧SqL K H b ys∧xs[i]?=some x∧ys[i]?=some y,
   fun i H v H'=>∃ t x y,v=.ref t∧H t=none∧(∀ xs,SqL K H a xs→xs[i]?=some x)∧(∀ ys,SqL K H b ys→ys[i]?=some y)∧H'=upd H t (.tup [x,y]),
   fun i H=>∃ xs ys,SqL K H a xs∧SqL K H b ys∧(xs.length≤i∨ys.length≤i)⟩
theorem turn_zip {P:Program} {w:World} {K:PySem.W.Frag} {elts:List Expr} {x1} {pos:Pos} (a b z TI TO i1 i2:Addr) (D:ZipApart z TI TO i1 i2 a b):Turn P w K (.Tuple elts x1 pos) (Itz K a b) [z,TI,TO,i1,i2] z
    (fun i h=>IsZip h z TI TO .none∧IsPair h TI (.ref i1) (.ref i2)∧(∃ u v,IsPair h TO u v)∧h.IsListIter i1 a i∧h.IsListIter i2 b i) where
  mem:=by simp
  obj:=fun i h st c hb=>by
    obtain ⟨h1,h2,⟨u,v,h3⟩,⟨o4,h4,_,d4⟩,⟨o5,h5,_,d5⟩⟩:=st
    simp only [List.mem_cons,List.not_mem_nil,or_false] at hb
    rcases hb with rfl | rfl | rfl | rfl | rfl
    · exact ⟨_,h1,fun v z=>by cases z⟩
    · exact ⟨_,h2,fun v z=>by cases z⟩
    · exact ⟨_,h3,fun v z=>by cases z⟩
    · exact ⟨o4,h4,fun v z=>by rw [d4] at z;cases z⟩
    · exact ⟨o5,h5,fun v z=>by rw [d5] at z;cases z⟩
  keep:=fun i h h' st k=>by
    obtain ⟨h1,h2,⟨u,v,h3⟩,h4,h5⟩:=st
    exact ⟨k z (by simp) _ h1,k TI (by simp) _ h2,⟨u,v,k TO (by simp) _ h3⟩,h4.at fun o q=>k i1 (by simp) o q,h5.at fun o q=>k i2 (by simp) o q⟩
  item:=by
    intro X hP hw hK hc i pins s σ H E I hf st hg
    subst hP hw hK
    obtain ⟨h1,h2,⟨u0,v0,h3⟩,h4,h5⟩:=st
    obtain ⟨xs,ys,x,y,hqa,hqb,hx,hy⟩:=hg
    obtain ⟨its,rv,p,hz⟩:=I.list hqa
    obtain ⟨jts,rw',p',hz'⟩:=I.list hqb
    obtain ⟨u,hu,ru⟩:=rv.get hx
    obtain ⟨v,hv,rv'⟩:=rw'.get hy
    have e1:=Heap.lt_size h1
    have fpo:∀ c∈[z,TI,TO,i1,i2],∃ o,s.heap.get? c=some o:=fun c hb=>by
      obtain ⟨o4,q4,_⟩:=h4
      obtain ⟨o5,q5,_⟩:=h5
      simp only [List.mem_cons,List.not_mem_nil,or_false] at hb
      rcases hb with rfl | rfl | rfl | rfl | rfl
      · exact ⟨_,h1⟩
      · exact ⟨_,h2⟩
      · exact ⟨_,h3⟩
      · exact ⟨_,q4⟩
      · exact ⟨_,q5⟩
    refine wpAny_pyNext_zip_item D h1 h2 h3 h4 h5 p.isList p'.isList (x:=u) (y:=v) (by simpa using hu) (by simpa using hv) fun h' g1 g2 g3 g4 g5 g6 g7=>⟨_,rfl,?_⟩
    refine wpAny_letOwnedTupleGo_zip g1 fun h2' g8 g9=>?_
    have kk:∀ c o,c∉[z,TI,TO,i1,i2]→s.heap.get? c=some o→h2'.get? c=some o:=fun c o hb q =>
      g9.extBut c o (fun q=>hb (by simp [q])) (g7 c o (fun q=>hb (by simp [q])) (fun q=>hb (by simp [q])) (fun q=>hb (by simp [q])) (fun q=>hb (by simp [q])) q)
    have tT:h2'.get? s.heap.objs.size=some {cls:=.type "tuple",data:=.seq #[u,v]}:=g9.extBut _ _ (Nat.ne_of_gt e1) g5
    have I1:=I.turnedNew (t':=s.toks) (T:=s.heap.objs.size) (o:=.tup [x,y]) kk hf (Nat.le_refl _) ⟨by show 2≤sizeLine;decide,[u,v],.cons ru (.cons rv' .nil),⟨_,tT,rfl,_,rfl⟩⟩
    have hn:H s.heap.objs.size=none:=I.hok.fresh (Nat.le_refl _)
    refine ⟨.ref s.heap.objs.size,_,I1,rfl,⟨_,x,y,rfl,hn,fun zs hy'=>by rw [I.list_inj hy' hqa];exact hx,fun zs hy'=>by rw [I.list_inj hy' hqb];exact hy,rfl⟩,⟨g8,?_,⟨u,v,?_⟩,?_,?_⟩,fun c hb=>?_⟩
    · exact g9.extBut _ _ D.TIz (g7 _ _ D.TIz D.TITO D.TIi1 D.TIi2 h2)
    · exact g9.extBut _ _ D.TOz g2
    · exact g3.extBut g9.extBut D.i1z
    · exact g4.extBut g9.extBut D.i2z
    · obtain ⟨f0,_⟩:=hf c hb
      obtain ⟨o,q⟩:=fpo c hb
      rw [upd_ne (Nat.ne_of_lt (Heap.lt_size q))];exact f0
  done:=by
    intro X hP hw hK hc i pins s σ H E I hf st hg
    subst hP hw hK
    obtain ⟨h1,h2,⟨u0,v0,h3⟩,h4,h5⟩:=st
    obtain ⟨xs,ys,hqa,hqb,hx⟩:=hg
    obtain ⟨its,rv,p,hz⟩:=I.list hqa
    obtain ⟨jts,rw',p',hz'⟩:=I.list hqb
    have hl:=rv.length
    have hl':=rw'.length
    refine wpAny_pyNext_zip_end (I.ok.hd hc) D h1 h2 h3 h4 h5 p.isList p'.isList ?_ fun h' eb=>⟨rfl,I.turnedL (t':=s.toks) (ch:=[z,TI,TO,i1,i2]) (fun c o hb q=>eb c o (fun q=>hb (by simp [q])) (fun q=>hb (by simp [q])) (fun q=>hb (by simp [q])) (fun q=>hb (by simp [q])) q) hf⟩
    rcases hx with hx | hx
    · exact .inl (by simp;lia)
    · exact .inr (by simp;lia)
  self:=fun _ _ _ _ _ st h=>wpAny_pyIter_zip st.1 h
section
variable {X:Cx} {l l2:Expr} {tl tl2:TE} {elts:List Expr} {p pos tpos:Pos}
noncomputable def iEnum (K:PySem.W.Frag) (tl:TE):TI:=fun σ H R=>tl σ H fun x H1=>∃ a,x=.ref a∧(∃ xs,SqL K H1 a xs)∧R (Ite K a) H1
theorem pi_enum {x1} (hg:Gl X "enumerate") (hm:X.mg "enumerate"=none) (hl:PE X l tl) (hs:starEach [l] X.env=[(false,eval l X.env)]:=by rfl):PI X (.Tuple elts x1 tpos) (.Call (.Name "enumerate" p) [l] [] pos) (iEnum X.K tl):=by
  intro pins s σ H R I h
  refine Call_ (ld_blt I hg hm boot_enumerate (PyProof.Rows.callWith_type1 ?_ hs rfl))
  rw [hs]
  show wpAny _ _ (spliced ((false,eval l X.env)::backTo pos (starEach [] X.env))) _ _ s
  refine Calls.spliced_cons (thn (hl pins s σ H _ I h) fun u s1 ⟨x,H1,I1,r1,q1⟩=>Calls.spliced_nil ?_)
  obtain ⟨a,rfl,⟨xs,hq⟩,q⟩:=q1
  cases r1
  obtain ⟨its,rv,pl,hz⟩:=I1.list hq
  refine call_enumerate_list pl.isList fun h' g1 g2 g3 g4=>?_
  have T:=turn_enum (P:=X.prog) (w:=X.w) (K:=X.K) (elts:=elts) (x1:=x1) (pos:=tpos) a (s1.heap.objs.size+1) s1.heap.objs.size (Nat.ne_of_gt (Nat.lt_succ_self _))
  refine T.self _ 0 _ _ _ ⟨⟨_,g1⟩,g2⟩ ?_
  refine ⟨s1.heap.objs.size+1,_,_,_,H1,rfl,I1.kept (t':=s1.toks) g4,T,⟨⟨_,g1⟩,g2⟩,fun b hb=>?_,q⟩
  have hb':s1.heap.objs.size≤b:=by
    rcases List.mem_cons.mp hb with rfl | hb
    · exact Nat.le_succ _
    · have z:b=s1.heap.objs.size:=by simpa using hb
      rw [z];exact Nat.le_refl _
  exact I1.fpOk hb' (I1.hok.fresh hb')
noncomputable def iZip (K:PySem.W.Frag) (tl tl2:TE):TI:=fun σ H R=>tl σ H fun x H1=>tl2 σ H1 fun y H2=>∃ a b,x=.ref a∧y=.ref b∧(∃ xs,SqL K H2 a xs)∧(∃ ys,SqL K H2 b ys)∧R (Itz K a b) H2
theorem pi_zip {x1} (hg:Gl X "zip") (hm:X.mg "zip"=none) (hl:PE X l tl) (hl2:PE X l2 tl2) (hs:starEach [l,l2] X.env=[(false,eval l X.env),(false,eval l2 X.env)]:=by rfl) (hs2:starEach [l2] X.env=[(false,eval l2 X.env)]:=by rfl) :
    PI X (.Tuple elts x1 tpos) (.Call (.Name "zip" p) [l,l2] [] pos) (iZip X.K tl tl2):=by
  intro pins s σ H R I h
  refine Call_ (ld_blt I hg hm boot_zip (PyProof.Rows.callWith_type1 ?_ (by rw [hs,hs2]) (by rw [hs2];rfl)))
  rw [hs]
  show wpAny _ _ (spliced ((false,eval l X.env)::(false,eval l2 X.env)::backTo pos (starEach [] X.env))) _ _ s
  refine Calls.spliced_cons (thn (hl pins s σ H _ I h) fun u s1 ⟨x,H1,I1,r1,q1⟩=>Calls.spliced_cons (thn (hl2 pins s1 σ H1 _ I1 q1) fun u2 s2 ⟨y,H2,I2,r2,q2⟩=>Calls.spliced_nil ?_))
  obtain ⟨a,b,rfl,rfl,⟨xs,hqa⟩,⟨ys,hqb⟩,q⟩:=q2
  cases r1
  cases r2
  obtain ⟨its,rv,pl,hz⟩:=I2.list hqa
  obtain ⟨jts,rv',pl',hz'⟩:=I2.list hqb
  have la:a<s2.heap.objs.size:=by obtain ⟨_,e,_⟩:=pl.isList;exact Heap.lt_size e
  have lb:b<s2.heap.objs.size:=by obtain ⟨_,e,_⟩:=pl'.isList;exact Heap.lt_size e
  refine call_zip_2 pl.isList pl'.isList fun h' g1 g2 g3 g4 g5 g6 g7=>?_
  have D:ZipApart (s2.heap.objs.size+4) (s2.heap.objs.size+2) (s2.heap.objs.size+3) s2.heap.objs.size (s2.heap.objs.size+1) a b:=zipApart_new la lb
  have T:=turn_zip (P:=X.prog) (w:=X.w) (K:=X.K) (elts:=elts) (x1:=x1) (pos:=tpos) a b _ _ _ _ _ D
  refine T.self _ 0 _ _ _ ⟨g1,g2,⟨_,_,g3⟩,g4,g5⟩ ?_
  refine ⟨s2.heap.objs.size+4,_,_,_,H2,rfl,I2.kept (t':=s2.toks) g7,T,⟨g1,g2,⟨_,_,g3⟩,g4,g5⟩,fun c hb=>?_,q⟩
  have hb':s2.heap.objs.size≤c:=by
    simp only [List.mem_cons,List.not_mem_nil,or_false] at hb
    rcases hb with rfl | rfl | rfl | rfl | rfl
    · exact Nat.le_add_right _ _
    · exact Nat.le_add_right _ _
    · exact Nat.le_add_right _ _
    · exact Nat.le_refl _
    · exact Nat.le_add_right _ _
  exact I2.fpOk hb' (I2.hok.fresh hb')
end
theorem for_enum {K:PySem.W.Frag} {a:Addr} {xs:List V} {g:TG} {tb:TS} {D:Ends} {σ:St} {H:Hp} (Pv:Nat→St→Hp→Prop) (h0:Pv 0 σ H) (hl:∀ i σ H,i≤xs.length→Pv i σ H→SqL K H a xs)
    (hs:∀ i x σ H t,xs[i]?=some x→Pv i σ H→H t=none→g (.ref t) σ (upd H t (.tup [.int i,x])) fun σ2 H2=>tb {D with nx:=Pv (i+1),ct:=Pv (i+1),bk:=D.nx} σ2 H2) (hd:∀ σ H,Pv xs.length σ H→D.nx σ H) :
    ∃ W:Nat→Nat→St→Hp→Prop,(∃ m,W 0 m σ H)∧∀ i m σ H,W i m σ H→
      ((Ite K a).stop i H∧D.nx σ H)∨((Ite K a).go i H∧∃ N:St→Hp→Prop,(∀ σ' H',N σ' H'→∃ m',m'<m∧W (i+1) m' σ' H')∧∀ x H',(Ite K a).yld i H x H'→g x σ H' fun σ2 H2=>tb {D with nx:=N,ct:=N,bk:=D.nx} σ2 H2):=by
  refine ⟨fun i m σ H=>m=xs.length - i∧i≤xs.length∧Pv i σ H,⟨xs.length,by simp,Nat.zero_le _,h0⟩,?_⟩
  rintro i m σ H ⟨rfl,hi,p⟩
  have q:=hl i σ H hi p
  by_cases hlt:i<xs.length
  · refine .inr ⟨⟨xs,xs[i],q,by simp [hlt]⟩,Pv (i+1),fun σ' H' p'=>⟨xs.length - (i+1),by lia,rfl,hlt,p'⟩,fun v H' y=>?_⟩
    obtain ⟨t,x,rfl,ht,y1,rfl⟩:=y
    exact hs i x σ H t (y1 xs q) p ht
  · have e:i=xs.length:=by lia
    subst e
    exact .inl ⟨⟨xs,q,Nat.le_refl _⟩,hd σ H p⟩
end L2
namespace Ma
noncomputable def ups (b n L:Nat):List Nat:=(List.range L).map fun j=>n / b ^ j % b
noncomputable def dws (b n L i:Nat):List Nat:=(List.range i).map fun j=>n / b ^ (L - 1 - j) % b
theorem ups_succ (b n i:Nat):ups b n (i+1)=ups b n i++[n / b ^ i % b]:=by
  unfold ups;rw [List.range_succ,List.map_append];rfl
theorem dws_succ (b n L i:Nat):dws b n L (i+1)=dws b n L i++[n / b ^ (L - 1 - i) % b]:=by
  unfold dws;rw [List.range_succ,List.map_append];rfl
theorem ups_len (b n L:Nat):(ups b n L).length=L:=by simp [ups]
theorem dws_len (b n L i:Nat):(dws b n L i).length=i:=by simp [dws]
theorem ups_rev (b n L:Nat):(ups b n L).reverse=dws b n L L:=by
  apply List.ext_getElem
  · simp [ups,dws]
  · intro i h1 h2
    simp [ups,dws]
theorem div_up (b n i:Nat):n / b ^ i / b=n / b ^ (i+1):=by rw [Nat.div_div_eq_div_mul,Nat.pow_succ]
theorem sum_le6:∀ (ps:List Nat),(∀ p∈ps,1≤p∧p≤6)→ps.length≤ps.sum∧ps.sum≤6*ps.length
  | [],_=>by simp
  | p::r,h=>by
    have h1:=h p (by simp)
    have h2:=sum_le6 r fun q hq=>h q (List.mem_cons_of_mem _ hq)
    simp only [List.sum_cons,List.length_cons]
    lia
theorem sum_cast:∀ (ps:List Nat),(ps.map fun (p:Nat)=>(p:Int)).sum=((ps.sum:Nat):Int)
  | []=>rfl
  | p::r=>by simp [sum_cast r]
end Ma
namespace Ma
noncomputable def cuts:List Nat→List Int→List (List Int)
  | [],_=>[]
  | p::ps,xs=>xs.take p::cuts ps (xs.drop p)
noncomputable def psums (ps:List Nat) (xs:List Int):List Int:=(cuts ps xs).map List.sum
noncomputable def ends:Nat→List Nat→List Nat
  | _,[]=>[]
  | o,p::ps=>(o+p)::ends (o+p) ps
theorem psums_len (ps:List Nat) (xs:List Int):(psums ps xs).length=ps.length:=by
  unfold psums
  rw [List.length_map]
  induction ps generalizing xs with
  | nil=>rfl
  | cons p ps ih=>simp [cuts,ih]
end Ma
namespace Ma
noncomputable def wts (b n L:Nat) (ws:List Int):List Int:=List.zipWith (fun (d:Nat) (x:Int)=>(d:Int)*x) (dws b n L L) ws
theorem wts_len (b n L:Nat) (ws:List Int) (h:ws.length=L):(wts b n L ws).length=L:=by
  unfold wts;rw [List.length_zipWith,dws_len,h,Nat.min_self]
theorem dws_lt {b n L d:Nat} (hb:0<b) (h:d∈dws b n L L):d<b:=by
  unfold dws at h
  obtain ⟨j,_,rfl⟩:=List.mem_map.mp h
  exact Nat.mod_lt _ hb
theorem cuts_len (ps:List Nat):∀ xs:List Int,(cuts ps xs).length=ps.length:=by
  induction ps with
  | nil=>intro xs;rfl
  | cons p ps ih=>intro xs;simp [cuts,ih]
theorem cuts_get (ps:List Nat):∀ (xs:List Int) (i p:Nat),ps[i]?=some p→(cuts ps xs)[i]?=some ((xs.drop (ps.take i).sum).take p):=by
  induction ps with
  | nil=>intro xs i p h;simp at h
  | cons q ps ih =>
    intro xs i p h
    cases i with
    | zero=>simp at h;subst h;simp [cuts]
    | succ i =>
      have h':ps[i]?=some p:=by simpa using h
      have:=ih (xs.drop q) i p h'
      simp only [cuts,List.getElem?_cons_succ,this,List.take_succ_cons,List.sum_cons,List.drop_drop]
theorem cuts_mem {ps:List Nat}:∀ {xs row:List Int},row∈cuts ps xs→∀ x∈row,x∈xs:=by
  induction ps with
  | nil=>intro xs row h;simp [cuts] at h
  | cons p ps ih =>
    intro xs row h x hx
    rcases List.mem_cons.mp h with rfl | h
    · exact List.mem_of_mem_take hx
    · exact List.mem_of_mem_drop (ih h x hx)
theorem cuts_short {ps:List Nat} (hp:∀ p∈ps,p≤6):∀ {xs row:List Int},row∈cuts ps xs→row.length≤6:=by
  induction ps with
  | nil=>intro xs row h;simp [cuts] at h
  | cons p ps ih =>
    intro xs row h
    rcases List.mem_cons.mp h with rfl | h
    · have:=hp p (by simp);rw [List.length_take];lia
    · exact ih (fun q hq=>hp q (List.mem_cons_of_mem _ hq)) h
end Ma
namespace Ma
noncomputable def maxL:List Int→Int
  | []=>0
  | [x]=>x
  | x::r=>max x (maxL r)
noncomputable def minL:List Int→Int
  | []=>0
  | [x]=>x
  | x::r=>min x (minL r)
theorem maxL_spec:∀ ns:List Int,0<ns.length→maxL ns∈ns∧∀ n∈ns,n≤maxL ns
  | [],h=>by simp at h
  | [x],_=>by simp [maxL]
  | x::y::r,_=>by
    have ih:=maxL_spec (y::r) (by simp)
    have e:maxL (x::y::r)=max x (maxL (y::r)):=rfl
    rw [e]
    refine ⟨?_,fun n hn=>?_⟩
    · rcases Int.le_total x (maxL (y::r)) with h | h
      · rw [Int.max_eq_right h];exact List.mem_cons_of_mem _ ih.1
      · rw [Int.max_eq_left h];simp
    · rcases List.mem_cons.mp hn with rfl | hn
      · exact Int.le_max_left _ _
      · exact Int.le_trans (ih.2 n hn) (Int.le_max_right _ _)
theorem minL_spec:∀ ns:List Int,0<ns.length→minL ns∈ns∧∀ n∈ns,minL ns≤n
  | [],h=>by simp at h
  | [x],_=>by simp [minL]
  | x::y::r,_=>by
    have ih:=minL_spec (y::r) (by simp)
    have e:minL (x::y::r)=min x (minL (y::r)):=rfl
    rw [e]
    refine ⟨?_,fun n hn=>?_⟩
    · rcases Int.le_total x (minL (y::r)) with h | h
      · rw [Int.min_eq_left h];simp
      · rw [Int.min_eq_right h];exact List.mem_cons_of_mem _ ih.1
    · rcases List.mem_cons.mp hn with rfl | hn
      · exact Int.min_le_left _ _
      · exact Int.le_trans (Int.min_le_right _ _) (ih.2 n hn)
theorem maxL_uniq {ns:List Int} {m:Int} (h1:m∈ns) (h2:∀ n∈ns,n≤m):m=maxL ns:=by
  have h:=maxL_spec ns (List.length_pos_of_mem h1)
  exact Int.le_antisymm (h.2 m h1) (h2 _ h.1)
theorem minL_uniq {ns:List Int} {m:Int} (h1:m∈ns) (h2:∀ n∈ns,m≤n):m=minL ns:=by
  have h:=minL_spec ns (List.length_pos_of_mem h1)
  exact Int.le_antisymm (h2 _ h.1) (h.2 m h1)
end Ma
namespace L2
open PySem PySem.Spec PyProof.Rows
structure Def (P:Program) (w:World) (K:PySem.W.Frag) (mg:Str→Option Value) (base:Heap) (k:Nat) (x:Str) (ps:List Str) (sp:Sp):Prop where
  ex:∃ f fd,FnOk P w K mg base CX0 k f fd ps sp∧mg x=some (.ref f)∧PySem.W.keepIn K (.ref f)=true∧Binds K fd ps []
section
variable {X:Cx} {k:Nat} {x:Str} {ps:List Str} {sp:Sp} {e a b c:Expr} {es:List Expr} {t:TA} {ta tb tc te:TE} {p pos:Pos}
theorem pe_fn (D:Def X.prog X.w X.K X.mg X.base k x ps sp) (hr:Room k X.A) (hg:Gl X x) (ha:PA X (e::es) t) (hdb:(x==("__debug__":Str))=false:=by decide)
    (he:starEach (e::es) X.env=(false,eval e X.env)::starEach es X.env:=by rfl) (hpl:(backTo pos (starEach es X.env)).any (·.1)=false:=by rfl):PE X (.Call (.Name x p) (e::es) [] pos) (tCall sp [] E0 t):=by
  obtain ⟨f,fd,G,h1,h2,h3⟩:=D.ex
  exact pe_call G hr hg h1 h2 h3 .nil pass0 ha hdb he hpl
theorem ixl (ha:PE X a ta) (hb:PE X b tb) (hs:PlainIx b:=by intro _ _;rfl):PE X (.Subscript a b pos) (tOp (rIxL X.K) ta tb):=pe_ix ix_list ha hb hs
theorem ixt (ha:PE X a ta) (hb:PE X b tb) (hs:PlainIx b:=by intro _ _;rfl):PE X (.Subscript a b pos) (tOp (rIxT X.K) ta tb):=pe_ix ix_tup ha hb hs
theorem lenS (hm:X.mg "len"=none) (hg:Gl X "len") (ha:PE X a ta) (hs:starEach [a] X.env=[(false,eval a X.env)]:=by rfl) :
    PE X (.Call (.Name "len" p) [a] [] pos) (tCB (fun xs H Q=>∃ p ys,xs=[.ref p]∧(SqL X.K H p ys∨SqT X.K H p ys)∧Q (.int ys.length) H) (tCons ta tNil)):=pe_callB call_len_seq hg hm PySem.boot_len (pa_cons ha pa_nil hs) (he:=hs)
theorem ixlK (K:PySem.W.Frag) (hK:X.K=K) (ha:PE X a ta) (hb:PE X b tb) (hs:PlainIx b:=by intro _ _;rfl):PE X (.Subscript a b pos) (tOp (rIxL K) ta tb):=by
  subst hK
  exact ixl ha hb hs
theorem ixtK (K:PySem.W.Frag) (hK:X.K=K) (ha:PE X a ta) (hb:PE X b tb) (hs:PlainIx b:=by intro _ _;rfl):PE X (.Subscript a b pos) (tOp (rIxT K) ta tb):=by
  subst hK
  exact ixt ha hb hs
theorem sl_listK (K:PySem.W.Frag) (hK:X.K=K):SlR X (rSlL K):=by
  subst hK
  exact sl_list
theorem pg_tupK (K:PySem.W.Frag) (hK:X.K=K) {k n:Nat} {u:TGs} (hc:X.calm=true) (h:PGs X es u) (hn:(assignEach es X.env).length=n:=by rfl) (hst:(assignEach es X.env).findIdx? (·.1)=none:=by rfl):PG X (.Tuple es k pos) (gTup K n u):=by
  subst hK
  exact pg_tup hc h hn hst
theorem op_neDP (P:Program) (w:World) (hP:X.prog=P) (hw:X.w=w) (hu:X.A.units+64<cLine):OpR X (compareOp .NotEq) (rEqD P w true):=by
  subst hP hw
  exact op_neD hu
theorem gk_two {K:PySem.W.Frag}:GKeeps 2 (gTup K 2 (gCons (gName 0) (gCons (gName 1) gNil))):=fun v σ H Q q=>by
  obtain ⟨a,xs,e,h1,h2,v0,r0,e0,v1,r1,e1,e2,q⟩:=q
  exact ⟨a,xs,e,h1,h2,v0,r0,e0,v1,r1,e1,e2,⟨by simp,fun i hi=>by rw [List.getElem?_set_ne (by lia),List.getElem?_set_ne (by lia)]⟩,q⟩
theorem pe_ty {y:Str} {T:String} (hm:X.mg y=none) (hv:bootBuiltins y=some (.type T)) (hg:Gl X y:=by rfl) (hn:y≠"__name__":=by decide) (hd:(y==("__debug__":Str))=false:=by decide):PE X (.Name y pos) (tC (.ty T)) :=
  pe_bltn (v:=.ty T) hg hm hv rfl hn hd
theorem r_ixl {K:PySem.W.Frag} {H:Hp} {q:Addr} {xs:List V} {i:Int} {v:V} {Q:VK} (h:H q=some (.lst xs)) (e:atI xs i=some v) (k:Q v H):rIxL K (.ref q) (.int i) H Q:=⟨q,xs,i,v,rfl,rfl,SqL.of h,e,k⟩
theorem r_ixt {K:PySem.W.Frag} {H:Hp} {q:Addr} {xs:List V} {i:Int} {v:V} {Q:VK} (h:H q=some (.tup xs)) (e:atI xs i=some v) (k:Q v H):rIxT K (.ref q) (.int i) H Q:=⟨q,xs,i,v,rfl,rfl,SqT.of h,e,k⟩
theorem at_all {xs:List V} {i:Int} {Pr:V→Prop} (h0:0≤i) (h1:i<xs.length) (h:∀ x∈xs,Pr x):∃ v,atI xs i=some v∧Pr v:=by
  obtain ⟨j,rfl⟩:∃ j:Nat,i=j:=⟨i.toNat,by lia⟩
  have hj:j<xs.length:=by lia
  exact ⟨xs[j],atI_nat (by simp [hj]),h _ (List.getElem_mem hj)⟩
end
end L2
namespace Hv
open PySem L2
theorem sz {n:Nat} (h:n≤1000000):n≤sizeLine:=Nat.le_trans h (by decide)
theorem szl {n:Nat} (h:n≤1000000):n<sizeLine:=Nat.lt_of_le_of_lt h (by decide)
noncomputable def Kp (fp:List Addr) (H H':Hp):Prop:=∀ b o,H b=some o→b∉fp→H' b=some o
theorem Kp.refl {fp:List Addr} {H:Hp}:Kp fp H H:=fun _ _ h _=>h
theorem Kp.trans {fp:List Addr} {H H1 H2:Hp} (a:Kp fp H H1) (b:Kp fp H1 H2):Kp fp H H2:=fun c o h n=>b c o (a c o h n) n
theorem Kp.of {fp:List Addr} {H H':Hp} (a:Same H H'):Kp fp H H':=fun c o h _=>a c o h
theorem Kp.same {fp:List Addr} {H H1 H2:Hp} (a:Kp fp H H1) (b:Same H1 H2):Kp fp H H2:=fun c o h n=>b c o (a c o h n)
theorem same_upd {H:Hp} {a:Addr} {o:HO} (h:H a=none):Same H (upd H a o):=fun b u e=>by rw [upd_ne (ne_of_none e h)];exact e
theorem same_upd2 {H H':Hp} {a:Addr} {o:HO} (s:Same H H') (h:H a=none):Same H (upd H' a o):=fun b u e=>by rw [upd_ne (ne_of_none e h)];exact s b u e
theorem kp_upd {fp:List Addr} {H H':Hp} {a:Addr} {o:HO} (s:Kp fp H H') (h:a∈fp∨H a=none):Kp fp H (upd H' a o):=fun b u e n=>by
  have:b≠a:=by
    rcases h with h | h
    · exact fun z=>n (z▸h)
    · exact ne_of_none e h
  rw [upd_ne this];exact s b u e n
structure FrOk (b:Nat) (ps:List Nat) (ws:List Int):Prop where
  b2:2≤b
  b16:b≤16
  l2:2≤ps.length
  l4:ps.length≤4
  pr:∀ p∈ps,1≤p∧p≤6
  wl:ws.length=ps.sum
  wr:∀ x∈ws,-9≤x∧x≤9
noncomputable abbrev natV (ps:List Nat):List V:=ps.map fun (p:Nat)=>V.int (p:Int)
theorem natV_eq (ps:List Nat):natV ps=(ps.map fun (p:Nat)=>(p:Int)).map V.int:=by simp [natV]
structure FrAt (H:Hp) (f a c:Addr) (b:Nat) (ps:List Nat) (ws:List Int):Prop where
  tp:H f=some (.tup [.int b,.ref a,.ref c])
  hp:H a=some (.lst (natV ps))
  hw:H c=some (.lst (ws.map V.int))
  ok:FrOk b ps ws
theorem FrAt.keep {H H':Hp} {f a c:Addr} {b:Nat} {ps:List Nat} {ws:List Int} (F:FrAt H f a c b ps ws) (s:Same H H'):FrAt H' f a c b ps ws:=⟨s _ _ F.tp,s _ _ F.hp,s _ _ F.hw,F.ok⟩
theorem FrAt.kp {fp:List Addr} {H H':Hp} {f a c:Addr} {b:Nat} {ps:List Nat} {ws:List Int} (F:FrAt H f a c b ps ws) (s:Kp fp H H') (h1:f∉fp) (h2:a∉fp) (h3:c∉fp):FrAt H' f a c b ps ws :=
  ⟨s _ _ F.tp h1,s _ _ F.hp h2,s _ _ F.hw h3,F.ok⟩
theorem FrOk.sum {b:Nat} {ps:List Nat} {ws:List Int} (F:FrOk b ps ws):2≤ps.sum∧ps.sum≤24:=by
  have h:=Ma.sum_le6 ps F.pr
  have h1:=F.l2
  have h2:=F.l4
  lia
theorem Kp.free {fp:List Addr} {H H':Hp} (s:Kp fp H H') {l:Addr} (h:H' l=none) (n:l∉fp):H l=none:=by
  cases q:H l with
  | none=>rfl
  | some o =>
    rw [s l o q n] at h
    cases h
end Hv
namespace Hv
open PySem L2
theorem boot_isinstance:bootBuiltins "isinstance"=some (.builtin "isinstance"):=PyProof.Rows.boot_isinstance
theorem boot_int:bootBuiltins "int"=some (.type "int"):=PyProof.Rows.boot_int
theorem boot_bool:bootBuiltins "bool"=some (.type "bool"):=PyProof.Rows.boot_bool
theorem boot_list:bootBuiltins "list"=some (.type "list"):=PyProof.Rows.boot_list
theorem boot_tuple:bootBuiltins "tuple"=some (.type "tuple"):=PyProof.Rows.boot_tuple
theorem boot_all:bootBuiltins "all"=some (.builtin "all"):=PyProof.Rows.boot_all
theorem boot_sum:bootBuiltins "sum"=some (.builtin "sum"):=PyProof.Rows.boot_sum
theorem boot_max:bootBuiltins "max"=some (.builtin "max"):=PyProof.Rows.boot_max
theorem boot_min:bootBuiltins "min"=some (.builtin "min"):=PyProof.Rows.boot_min
structure Txt (mg:Str→Option Value):Prop where
  isi:mg "isinstance"=none
  int:mg "int"=none
  bool:mg "bool"=none
  list:mg "list"=none
  tuple:mg "tuple"=none
  all:mg "all"=none
  len:mg "len"=none
  sum:mg "sum"=none
  range:mg "range"=none
  max:mg "max"=none
  min:mg "min"=none
  rev:mg "reversed"=none
  zip:mg "zip"=none
  enum:mg "enumerate"=none
section
variable {K:PySem.W.Frag}
theorem kit_ii:PySem.W.kitOne K (.type "int") (.type "int")=some true:=by kernel_rfl
theorem kit_ib:PySem.W.kitOne K (.type "int") (.type "bool")=some false:=by kernel_rfl
theorem kit_bi:PySem.W.kitOne K (.type "bool") (.type "int")=some true:=by kernel_rfl
theorem kit_bb:PySem.W.kitOne K (.type "bool") (.type "bool")=some true:=by kernel_rfl
theorem kit_ni:PySem.W.kitOne K (.type "NoneType") (.type "int")=some false:=by kernel_rfl
theorem kit_si:PySem.W.kitOne K (.type "str") (.type "int")=some false:=by kernel_rfl
theorem kit_li:PySem.W.kitOne K (.type "list") (.type "int")=some false:=by kernel_rfl
theorem kit_ti:PySem.W.kitOne K (.type "tuple") (.type "int")=some false:=by kernel_rfl
theorem kit_di:PySem.W.kitOne K (.type "dict") (.type "int")=some false:=by kernel_rfl
theorem kit_ll:PySem.W.kitOne K (.type "list") (.type "list")=some true:=by kernel_rfl
theorem kit_tt:PySem.W.kitOne K (.type "tuple") (.type "tuple")=some true:=by kernel_rfl
end
inductive Thing (H:Hp):V→Prop where
  | non:Thing H .non
  | bl (b:Bool):Thing H (.bl b)
  | int (i:Int):Thing H (.int i)
  | str (x:Str):Thing H (.str x)
  | lst {a:Addr} {xs:List V} (e:H a=some (.lst xs)):Thing H (.ref a)
  | tup {a:Addr} {xs:List V} (e:H a=some (.tup xs)):Thing H (.ref a)
  | dK {a:Addr} {kvs:List (Key×V)} (e:H a=some (.dK kvs)):Thing H (.ref a)
theorem Thing.keep {H H':Hp} {v:V} (t:Thing H v) (s:Same H H'):Thing H' v:=by
  cases t with
  | non=>exact .non
  | bl b=>exact .bl b
  | int i=>exact .int i
  | str x=>exact .str x
  | lst e=>exact .lst (s _ _ e)
  | tup e=>exact .tup (s _ _ e)
  | dK e=>exact .dK (s _ _ e)
noncomputable def isIntV:V→Bool
  | .int _=>true
  | _=>false
noncomputable def betw (v:V) (lo hi:Int):Bool:=match v with
  | .int i=>decide (lo≤i)&&decide (i≤hi)
  | _=>false
noncomputable def spWhole:Sp:=fun vs H Q _=>∃ v,vs=[v]∧Thing H v∧Q (.bl (isIntV v)) H
noncomputable def spBetw:Sp:=fun vs H Q _=>∃ v lo hi,vs=[v,.int lo,.int hi]∧Thing H v∧Q (.bl (betw v lo hi)) H
noncomputable def spLBetw:Sp:=fun vs H Q _=>∃ a xs lo hi,vs=[.ref a,.int lo,.int hi]∧H a=some (.lst xs)∧xs.length≤1000∧(∀ x∈xs,Thing H x)∧∀ H',Same H H'→Q (.bl (xs.all fun x=>betw x lo hi)) H'
noncomputable def spIsFrame:Sp:=fun vs H Q _=>∃ f a c b ps ws,vs=[.ref f]∧FrAt H f a c b ps ws∧∀ H',Same H H'→Q (.bl true) H'
noncomputable def spNeedFrame:Sp:=fun vs H Q _=>∃ f a c b ps ws,vs=[.ref f]∧FrAt H f a c b ps ws∧∀ H',Same H H'→Q .non H'
noncomputable def spHowMany:Sp:=fun vs H Q _=>∃ f a c b ps ws,vs=[.ref f]∧FrAt H f a c b ps ws∧∀ H',Same H H'→Q (.int ((b ^ ps.sum:Nat):Int)) H'
noncomputable def spNeedNumber:Sp:=fun vs H Q _=>∃ f a c b ps ws,∃ n:Nat,vs=[.ref f,.int n]∧FrAt H f a c b ps ws∧n<b ^ ps.sum∧∀ H',Same H H'→Q .non H'
noncomputable def spFigures:Sp:=fun vs H Q _=>∃ f a c b ps ws,∃ n:Nat,vs=[.ref f,.int n]∧FrAt H f a c b ps ws∧n<b ^ ps.sum∧
  ∀ r H',H r=none→Same H H'→H' r=some (.lst (natV (Ma.dws b n ps.sum ps.sum)))→Q (.ref r) H'
theorem betw_nats {ps:List Nat} {lo hi:Nat} (h:∀ p∈ps,lo≤p∧p≤hi):((natV ps).all fun x=>betw x lo hi)=true:=by
  rw [List.all_eq_true]
  intro x hx
  obtain ⟨p,hp,rfl⟩:=List.mem_map.mp hx
  have:=h p hp
  simp only [betw,Bool.and_eq_true,decide_eq_true_eq]
  omega
theorem betw_ints {ws:List Int} {lo hi:Int} (h:∀ p∈ws,lo≤p∧p≤hi):((ws.map V.int).all fun x=>betw x lo hi)=true:=by
  rw [List.all_eq_true]
  intro x hx
  obtain ⟨p,hp,rfl⟩:=List.mem_map.mp hx
  have:=h p hp
  simp only [betw,Bool.and_eq_true,decide_eq_true_eq]
  omega
theorem things_ints {H:Hp} (ws:List Int):∀ x∈ws.map V.int,Thing H x:=fun x hx=>by
  obtain ⟨p,_,rfl⟩:=List.mem_map.mp hx
  exact .int p
theorem things_nats {H:Hp} (ps:List Nat):∀ x∈natV ps,Thing H x:=fun x hx=>by
  obtain ⟨p,_,rfl⟩:=List.mem_map.mp hx
  exact .int p
end Hv
namespace Hv
open PySem L2
noncomputable def top (i : Nat) : Stmt := PySem.Challenge.pw_likehalves_k37_whole_there_and_back.main.body.getD i (.Pass ⟨0, 0, 0, 0⟩)
noncomputable abbrev sWhole:Stmt:=top 7
noncomputable abbrev sBetw:Stmt:=top 8
noncomputable abbrev sLBetw:Stmt:=top 9
noncomputable abbrev sIsFrame:Stmt:=top 10
noncomputable abbrev sNeedFrame:Stmt:=top 11
noncomputable abbrev sHowMany:Stmt:=top 12
noncomputable abbrev sNeedNumber:Stmt:=top 13
noncomputable abbrev sCut:Stmt:=top 14
noncomputable abbrev sFiguresOf:Stmt:=top 15
noncomputable abbrev sOneMore:Stmt:=top 17
noncomputable abbrev sWaysW:Stmt:=top 18
noncomputable abbrev sWaysParts:Stmt:=top 19
noncomputable abbrev sWaysWith:Stmt:=top 20
noncomputable abbrev sEvenBy:Stmt:=top 21
noncomputable abbrev sCountEven:Stmt:=top 22
noncomputable abbrev sNeedMiss:Stmt:=top 23
noncomputable abbrev sRunning:Stmt:=top 24
noncomputable abbrev sWithin:Stmt:=top 25
noncomputable abbrev sSpreadW:Stmt:=top 26
noncomputable abbrev sCountNear:Stmt:=top 27
noncomputable abbrev sStretches:Stmt:=top 29
noncomputable abbrev sPartBegin:Stmt:=top 30
noncomputable abbrev sWeighted:Stmt:=top 31
noncomputable abbrev sNumberOf:Stmt:=top 32
noncomputable abbrev sNeedPlace:Stmt:=top 34
noncomputable abbrev sTailsOfPart:Stmt:=top 35
noncomputable abbrev sTailsOfParts:Stmt:=top 36
noncomputable abbrev sWaysFromBeginnings:Stmt:=top 37
noncomputable abbrev sCountBegun:Stmt:=top 38
noncomputable abbrev sCountBelow:Stmt:=top 39
noncomputable abbrev sFigureAndRest:Stmt:=top 40
noncomputable abbrev sNumberAt:Stmt:=top 41
noncomputable abbrev sEvenByK:Stmt:=top 42
noncomputable abbrev sNearBy:Stmt:=top 43
noncomputable abbrev sCopyOf:Stmt:=top 45
noncomputable abbrev sWithWeight:Stmt:=top 46
noncomputable abbrev sCell:Stmt:=top 49
noncomputable abbrev sStore:Stmt:=top 50
noncomputable abbrev sTake:Stmt:=top 51
noncomputable abbrev sFrame:Stmt:=top 52
noncomputable abbrev sCopy:Stmt:=top 53
noncomputable abbrev sMany:Stmt:=top 54
noncomputable abbrev sLawAll:Stmt:=top 55
noncomputable abbrev sLawChanged:Stmt:=top 56
noncomputable abbrev sLawUndoneRight:Stmt:=top 57
noncomputable abbrev sLawLongRight:Stmt:=top 58
noncomputable abbrev sLawSignsRight:Stmt:=top 59
noncomputable abbrev sLaw:Stmt:=top 60
noncomputable abbrev sKeeperInit:Stmt:=inClass (top 47) 0
noncomputable abbrev sKeeperWeigh:Stmt:=inClass (top 47) 1
noncomputable abbrev sKeeperUndo:Stmt:=inClass (top 47) 2
noncomputable abbrev sKeeperFrame:Stmt:=inClass (top 47) 3
noncomputable abbrev sKeeperNear:Stmt:=inClass (top 47) 4
noncomputable abbrev sKeeperEven:Stmt:=inClass (top 47) 5
noncomputable abbrev sKeeperChanges:Stmt:=inClass (top 47) 6
end Hv
namespace L2
open PySem PySem.Spec PyProof.Rows
section
variable {κ:Type} [DecidableEq κ]
noncomputable def valV (kvs:List (κ×V)) (k:κ):Option V:=(kvs.find? fun kv=>decide (kv.1=k)).map (·.2)
noncomputable def putK (kvs:List (κ×V)) (k:κ) (v:V):List (κ×V) :=
  if (kvs.any fun kv=>decide (kv.1=k))=true then kvs.map (fun kv=>if kv.1=k then (kv.1,v) else kv) else kvs++[(k,v)]
theorem valV_pos {p:κ×V} {r:List (κ×V)} {k:κ} (e:p.1=k):valV (p::r) k=some p.2:=by simp [valV,List.find?_cons,e]
theorem valV_neg {p:κ×V} {r:List (κ×V)} {k:κ} (e:¬ p.1=k):valV (p::r) k=valV r k:=by simp [valV,List.find?_cons,e]
theorem valV_any (k:κ):∀ kvs:List (κ×V),(kvs.any fun kv=>decide (kv.1=k))=(valV kvs k).isSome
  | []=>rfl
  | p::r=>by
    rw [List.any_cons]
    by_cases e:p.1=k
    · simp only [valV_pos e,decide_eq_true e,Bool.true_or,Option.isSome_some]
    · rw [valV_neg e,decide_eq_false e,Bool.false_or];exact valV_any k r
theorem length_putK (kvs:List (κ×V)) (k:κ) (v:V):(putK kvs k v).length≤kvs.length+1:=by
  unfold putK
  split
  · rw [List.length_map];omega
  · rw [List.length_append,List.length_cons,List.length_nil];omega
theorem RelO.isSome_eq {o:Option V} {u:Option Value} (r:RelO o u):o.isSome=u.isSome:=by
  cases o with
  | none=>cases u with
    | none=>rfl
    | some _=>exact (show False from r).elim
  | some _=>cases u with
    | none=>exact (show False from r).elim
    | some _=>rfl
theorem RelO.getD {o:Option V} {u:Option Value} {d:V} {d':Value} (r:RelO o u) (rd:RelV d d'):RelV (o.getD d) (u.getD d'):=by
  cases o with
  | none=>cases u with
    | none=>exact rd
    | some _=>exact (show False from r).elim
  | some _=>cases u with
    | none=>exact (show False from r).elim
    | some _=>exact r
theorem KV.val {kvs:List (κ×V)} {vs:List (κ×Value)} (r:KV kvs vs) (k:κ):RelO (valV kvs k) (valueAt vs k):=by
  unfold KV at r
  induction r with
  | nil=>exact True.intro
  | @cons p q ps qs h t ih =>
    obtain ⟨h1,h2⟩:=h
    by_cases e:p.1=k
    · have e':q.1=k:=h1.symm.trans e
      have b:valueAt (q::qs) k=some q.2:=by simp [valueAt,List.find?_cons,e']
      rw [valV_pos e,b];exact h2
    · have e':¬ q.1=k:=fun z=>e (h1.trans z)
      have b:valueAt (q::qs) k=valueAt qs k:=by simp [valueAt,List.find?_cons,e']
      rw [valV_neg e,b];exact ih
theorem KV.any {kvs:List (κ×V)} {vs:List (κ×Value)} (r:KV kvs vs) (k:κ):(kvs.any fun kv=>decide (kv.1=k))=vs.any fun kv=>decide (kv.1=k):=by
  unfold KV at r
  induction r with
  | nil=>rfl
  | cons h t ih=>rw [List.any_cons,List.any_cons,ih,h.1]
theorem KV.repl {kvs:List (κ×V)} {vs:List (κ×Value)} (r:KV kvs vs) (k:κ) {y:V} {u:Value} (ry:RelV y u) :
    KV (kvs.map fun kv=>if kv.1=k then (kv.1,y) else kv) (vs.map fun kv=>if kv.1=k then (kv.1,u) else kv):=by
  unfold KV at r⊢
  induction r with
  | nil=>exact .nil
  | @cons p q ps qs h t ih =>
    rw [List.map_cons,List.map_cons]
    refine .cons ?_ ih
    obtain ⟨h1,h2⟩:=h
    by_cases e:p.1=k
    · rw [if_pos e,if_pos (h1.symm.trans e)];exact ⟨h1,ry⟩
    · rw [if_neg e,if_neg (fun z=>e (h1.trans z))];exact ⟨h1,h2⟩
theorem KV.put {kvs:List (κ×V)} {vs:List (κ×Value)} (r:KV kvs vs) (k:κ) {y:V} {u:Value} (ry:RelV y u):KV (putK kvs k y) (stored vs k u):=by
  unfold putK stored
  rw [r.any k]
  by_cases e:(vs.any fun kv=>decide (kv.1=k))=true
  · rw [if_pos e,if_pos e];exact r.repl k ry
  · rw [if_neg e,if_neg e];exact Paired.snoc r ⟨rfl,ry⟩
theorem KV.keys {kvs:List (κ×V)} {vs:List (κ×Value)} (r:KV kvs vs):kvs.map (·.1)=vs.map (·.1):=by
  unfold KV at r
  induction r with
  | nil=>rfl
  | cons h t ih=>rw [List.map_cons,List.map_cons,ih,h.1]
theorem KV.length {kvs:List (κ×V)} {vs:List (κ×Value)} (r:KV kvs vs):kvs.length=vs.length:=Paired.length r
end
theorem kV_is {P:Program} {w:World} {k:Key} {u:Value} (r:RelV (kV k) u):(mixKind P w).is k u=true:=by
  cases k with
  | inl i=>obtain ⟨t,e⟩:=(show ∃ t,u=Value.int i t from r);subst e;exact mixKind_int P w i t
  | inr x=>obtain ⟨t,e⟩:=(show ∃ t,u=Value.str x t from r);subst e;exact mixKind_str P w x t
theorem items_are {P:Program} {w:World}:∀ {ks:List Key} {us:List Value},Vals (ks.map kV) us→ItemsAre (mixKind P w) ks us
  | [],_,r=>by rw [List.map_nil] at r;cases r;exact .nil
  | k::ks,_,r=>by
    rw [List.map_cons] at r
    cases r with
    | cons h t=>exact .cons (kV_is h) (items_are t)
noncomputable abbrev KT (H:Hp):List (List Key×V)→List (List Key×Addr×Value)→Prop:=Paired fun p q=>p.1=q.1∧H q.2.1=some (.tup (p.1.map kV))∧RelV p.2 q.2.2
theorem KT.val {H:Hp} {kvs:List (List Key×V)} {xs:List (List Key×Addr×Value)} (r:KT H kvs xs) (k:List Key):RelO (valV kvs k) ((atKey xs k).map (·.2)):=by
  induction r with
  | nil=>exact True.intro
  | @cons p q ps qs h t ih =>
    obtain ⟨h1,_,h2⟩:=h
    by_cases e:p.1=k
    · have e':q.1=k:=h1.symm.trans e
      have b:atKey (q::qs) k=some q.2:=by simp [atKey,List.find?_cons,e']
      rw [valV_pos e,b];exact h2
    · have e':¬ q.1=k:=fun z=>e (h1.trans z)
      have b:atKey (q::qs) k=atKey qs k:=by simp [atKey,List.find?_cons,e']
      rw [valV_neg e,b];exact ih
theorem KT.repl {H:Hp} {kvs:List (List Key×V)} {xs:List (List Key×Addr×Value)} (r:KT H kvs xs) (k:List Key) {y:V} {u:Value} (ry:RelV y u) :
    KT H (kvs.map fun kv=>if kv.1=k then (kv.1,y) else kv) (xs.map (putAt k u)):=by
  induction r with
  | nil=>exact .nil
  | @cons p q ps qs h t ih =>
    rw [List.map_cons,List.map_cons]
    refine .cons ?_ ih
    obtain ⟨h1,h2,h3⟩:=h
    unfold putAt
    by_cases e:p.1=k
    · rw [if_pos e,if_pos (h1.symm.trans e)];exact ⟨h1,h2,ry⟩
    · rw [if_neg e,if_neg (fun z=>e (h1.trans z))];exact ⟨h1,h2,h3⟩
theorem KT.put {H:Hp} {kvs:List (List Key×V)} {xs:List (List Key×Addr×Value)} (r:KT H kvs xs) (k:List Key) {b:Addr} {y:V} {u:Value} (hb:H b=some (.tup (k.map kV))) (ry:RelV y u) :
    KT H (putK kvs k y) (storedH xs k b u):=by
  have e:(kvs.any fun kv=>decide (kv.1=k))=(atKey xs k).isSome:=by
    rw [valV_any,(r.val k).isSome_eq,Option.isSome_map]
  unfold putK storedH
  rw [e]
  by_cases q:(atKey xs k).isSome=true
  · rw [if_pos q,if_pos q];exact r.repl k ry
  · rw [if_neg q,if_neg q];exact Paired.snoc r ⟨rfl,hb,ry⟩
theorem KT.keeps {H H':Hp} {kvs:List (List Key×V)} {xs:List (List Key×Addr×Value)} (r:KT H kvs xs) (ht:∀ b ys,H b=some (.tup ys)→H' b=some (.tup ys)):KT H' kvs xs :=
  Paired.mapP r fun _ _ z=>⟨z.1,ht _ _ z.2.1,z.2.2⟩
section
variable {P:Program} {w:World} {H:Hp} {h:Heap} {a:Addr}
theorem rd_of {u:HO} (ok:HOk P w H h) (e:Rd H a u):ObjOk P w H h a u:=e.ok ok
theorem dk_rd {kvs:List (Key×V)} (ok:HOk P w H h) (e:Rd H a (.dK kvs)):kvs.length≤sizeLine∧(a==sysModules)=false∧∃ vs,KV kvs vs∧h.DictOf (mixKind P w) a vs :=
  show ObjOk P w H h a (.dK kvs) from rd_of ok e
theorem dk_of {kvs:List (Key×V)} (ok:HOk P w H h) (e:H a=some (.dK kvs)):kvs.length≤sizeLine∧(a==sysModules)=false∧∃ vs,KV kvs vs∧h.DictOf (mixKind P w) a vs:=dk_rd ok (.inl e)
theorem key_of {ks:List Key} (ok:HOk P w H h) (e:H a=some (.tup (ks.map kV))):(tupleKind (mixKind P w)).is h ks a:=by
  obtain ⟨_,its,r,o,h1,h2,n,h3⟩:=(show ObjOk P w H h a (.tup (ks.map kV)) from ok a _ e)
  exact ⟨o,its.toArray,n,h1,h2,h3,by simpa using items_are r⟩
theorem dt_rd {kvs:List (List Key×V)} (ok:HOk P w H h) (e:Rd H a (.dT kvs)):kvs.length≤sizeLine∧(a==sysModules)=false∧
    ∃ xs,KT H kvs xs∧h.DictOfH (tupleKind (mixKind P w)) a xs:=by
  obtain ⟨z,y,xs,r,o,es,ep,h1,h2,h3,h4,h5⟩:=(show ObjOk P w H h a (.dT kvs) from rd_of ok e)
  refine ⟨z,y,xs,r,o,es,ep,h1,h2,h3,h4,fun x hx=>?_,h5⟩
  have all:∀ {l:List (List Key×V)} {m:List (List Key×Addr×Value)},KT H l m→∀ x∈m,(tupleKind (mixKind P w)).is h x.1 x.2.1:=by
    intro l m q
    induction q with
    | nil=>intro x hx;exact nomatch hx
    | @cons p q ps qs hq t ih =>
      intro x hx
      rcases List.mem_cons.mp hx with e | hx
      · subst e
        exact key_of ok (by rw [← hq.1];exact hq.2.1)
      · exact ih x hx
  exact all r x hx
theorem dt_of {kvs:List (List Key×V)} (ok:HOk P w H h) (e:H a=some (.dT kvs)):kvs.length≤sizeLine∧(a==sysModules)=false∧
    ∃ xs,KT H kvs xs∧h.DictOfH (tupleKind (mixKind P w)) a xs:=dt_rd ok (.inl e)
end
noncomputable def DGet (H:Hp) (a:Addr) (y:V) (r:Option V):Prop :=
  (∃ kvs k,Rd H a (.dK kvs)∧y=kV k∧r=valV kvs k)∨∃ kvs k b,Rd H a (.dT kvs)∧y=.ref b∧H b=some (.tup (k.map kV))∧r=valV kvs k
noncomputable def DPut (H:Hp) (a:Addr) (y v:V) (H':Hp):Prop :=
  (∃ kvs k,H a=some (.dK kvs)∧y=kV k∧kvs.length<sizeLine∧H'=upd H a (.dK (putK kvs k v)))∨
  ∃ kvs k b,H a=some (.dT kvs)∧y=.ref b∧H b=some (.tup (k.map kV))∧kvs.length<sizeLine∧H'=upd H a (.dT (putK kvs k v))
theorem DPut.k {H:Hp} {a:Addr} {kvs:List (Key×V)} {k:Key} {v:V} (e:H a=some (.dK kvs)) (hl:kvs.length<sizeLine):DPut H a (kV k) v (upd H a (.dK (putK kvs k v))):=.inl ⟨kvs,k,e,rfl,hl,rfl⟩
section
variable {X:Cx} {pins:List (Addr×Obj)} {σ:St} {H:Hp} {s:Shared} {a:Addr} {y v:V} {u r:Value} {o:Option V} {A:Around} {E:Value→Shared→Prop}
theorem Inv.big (I:Inv X pins σ H s):sysModules<s.heap.objs.size:=by
  have h:mainGlobals<s.heap.objs.size:=(I.mod.glob.keeps I.bk).lt
  exact Nat.lt_trans (by decide) h
theorem d_getItem {Q:Value→Shared→Prop} (hu:A.units+1<cLine) (I:Inv X pins σ H s) (g:DGet H a y (some v)) (ry:RelV y u) (h:∀ w' s',Inv X pins σ H s'→RelV v w'→Q w' s') :
    wpAny (model X.prog X.w) A (getItem (.ref a) u) Q E s:=by
  rcases g with ⟨kvs,k,e,ey,l⟩ | ⟨kvs,k,b,e,ey,eb,l⟩
  · subst ey
    obtain ⟨z,hd,vs,rel,dd⟩:=dk_rd I.hok e
    obtain ⟨w',hw,rw'⟩:=RelO.some_of (v:=v) (o:=valueAt vs k) (by rw [l];exact rel.val k)
    exact wpAny_getItem_of (kV_is ry) dd.mapOf hw (h w' _ (I.tok _) rw')
  · subst ey
    cases (show u=Value.ref b from ry)
    obtain ⟨z,hd,xs,rel,dd⟩:=dt_rd I.hok e
    obtain ⟨w',hw,rw'⟩:=RelO.some_of (v:=v) (o:=(atKey xs k).map (·.2)) (by rw [l];exact rel.val k)
    obtain ⟨p,hp,hp2⟩:=Option.map_eq_some_iff.mp hw
    refine wpAny_getItem_heap (tupleKind_room_in1 hu) (key_of I.hok eb) dd hp ?_
    rw [hp2]
    exact h w' _ (I.tok _) rw'
theorem d_write {h':Heap} {t':Nat} {ob:HO} (I:Inv X pins σ H s) (mu:Mut (H a)) (hs:Heap.SameBut a s.heap h') (he:∃ q,h'.get? a=some q) (new:ObjOk X.prog X.w (upd H a ob) h' a ob) :
    Inv X pins σ (upd H a ob) {s with heap:=h',toks:=t'} :=
  I.write (x:=a) (e:=a) mu (.inl rfl) (fun b q hb z=>(hs.2 b hb).trans z) he new
theorem dk_new {P:Program} {w:World} {H':Hp} {h':Heap} {kvs:List (Key×V)} {vs:List (Key×Value)} (z:kvs.length≤sizeLine) (hd:(a==sysModules)=false) (rel:KV kvs vs) (dd:h'.DictOf (mixKind P w) a vs) :
    ObjOk P w H' h' a (.dK kvs):=⟨z,hd,vs,rel,dd⟩
theorem d_setItem {H':Hp} {Q:Unit→Shared→Prop} (hu:A.units+1<cLine) (I:Inv X pins σ H s) (g:DPut H a y v H') (ry:RelV y u) (rv:RelV v r) (h:∀ s',Inv X pins σ H' s'→Q () s') :
    wpAny (model X.prog X.w) A (setItem (.ref a) u r) Q E s:=by
  rcases g with ⟨kvs,k,e,ey,l,eH⟩ | ⟨kvs,k,b,e,ey,eb,l,eH⟩
  · subst ey eH
    obtain ⟨z,hd,vs,rel,dd⟩:=dk_of I.hok e
    have hz:vs.length≤sizeLine:=by rw [← rel.length];exact z
    have hl:(putK kvs k v).length≤sizeLine:=by have:=length_putK kvs k v;omega
    refine wpAny_setItem_pairs (hsz:=hz) (kV_is ry) dd fun h' dd' hs=>h _ ?_
    have he:∃ q,h'.get? a=some q:=let ⟨q,_,_,hq,_⟩:=dd';⟨q,hq⟩
    exact d_write I (by rw [e];exact True.intro) hs he (dk_new hl hd (rel.put k rv) dd')
  · subst ey eH
    cases (show u=Value.ref b from ry)
    obtain ⟨z,hd,xs,rel,dd⟩:=dt_of I.hok e
    have hz:xs.length≤sizeLine:=by rw [← Paired.length rel];exact z
    have hl:(putK kvs k v).length≤sizeLine:=by have:=length_putK kvs k v;omega
    refine wpAny_setItem_heap (hsz:=hz) (tupleKind_room_in1 hu) (key_of I.hok eb) dd fun h' dd' hs=>h _ ?_
    obtain ⟨q,es,ep,hq,h2,h3,h4,_,h5⟩:=dd'
    refine d_write I (by rw [e];exact True.intro) hs ⟨q,hq⟩ ⟨hl,hd,_,(rel.put k eb rv).keeps fun c ys ec=>?_,q,es,ep,hq,h2,h3,h4,h5⟩
    rw [upd_ne (ne_of ec e (fun z=>nomatch z))]
    exact ec
end
section
variable {X:Cx} {pins:List (Addr×Obj)} {σ:St} {H:Hp} {s:Shared} {a:Addr} {kvs:List (Key×V)} {k:Key} {u:Value} {A:Around} {E:Value→Shared→Prop}
end
noncomputable def NoSl (i:Expr):Prop:=∀ ov iv,subscripted i false ov iv=operate [ov,iv] (getItem ov iv)
theorem subD_of {prog:Program} {w:World} {A:Around} {E:Value→Shared→Prop} {s:Shared} {env:Env} {value slice:Expr} {pos:Pos} {T id:String} {Q:Value→Shared→Prop}
    (hl:typeLookup (.type T) "__getitem__"=pure (some (.builtin id))) (hs:NoSl slice)
    (h:wpAny (model prog w) A (eval value env) (fun o s₁=>wpAny (model prog w) A (eval slice env) (fun i s₂=>s₂.TypeIs o T∧wpAny (model prog w) A (getItem o i) Q E s₂) E s₁) E s) :
    wpAny (model prog w) A (eval (.Subscript value slice pos) env) Q E s:=by
  refine Subscript_ (wpAny_mono h (fun o s₁ h₁=>wpAny_mono h₁ (fun i s₂ h₂=>?_) fun _ _ x=>x) fun _ _ x=>x)
  obtain ⟨hT,h₂⟩:=h₂
  unfold subscriptTail
  refine wpAny_bind ?_
  rw [getitemInPython_of_ne hT.not_modules]
  refine wpAny_bind (wpAny_specialOf hT hl ?_)
  have fin:wpAny (model prog w) A (subscripted slice false o i) (fun r s₃=>wpAny (model prog w) A (letTemporaryGo value o r>>=fun _=>pure r) Q E s₃) E s₂:=by
    rw [hs o i]
    exact wpAny_operating (wpAny_mono h₂ (fun r s₃ h₃=>wpAny_bind (wpAny_letTemporaryGo (wpAny_pure h₃))) fun _ _ x=>x)
  first
    | exact wpAny_pure (wpAny_bind fin)
    | exact wpAny_bind (wpAny_pure (wpAny_bind fin))
    | exact wpAny_bind fin
theorem dict_typeIs {X:Cx} {pins:List (Addr×Obj)} {σ:St} {H:Hp} {s:Shared} {a:Addr} {y:V} {o:Option V} (I:Inv X pins σ H s) (g:DGet H a y o):s.TypeIs (.ref a) "dict":=by
  rcases g with ⟨kvs,k,e,_,_⟩ | ⟨kvs,k,b,e,_,_,_⟩
  · obtain ⟨_,_,vs,_,dd⟩:=dk_rd I.hok e
    exact dd.typeIs
  · obtain ⟨_,_,xs,_,dd⟩:=dt_rd I.hok e
    exact dd.typeIs
noncomputable def tDGet (td ty:TE):TE:=fun σ H Q=>td σ H fun x H1=>ty σ H1 fun y H2=>∃ a v,x=.ref a∧DGet H2 a y (some v)∧Q v H2
noncomputable def sDPut (td ty tv:TE):TS:=fun D σ H=>tv σ H fun v H1=>td σ H1 fun x H2=>ty σ H2 fun y H3=>∃ a H4,x=.ref a∧DPut H3 a y v H4∧D.nx σ H4
section
variable {X:Cx} {o i e value:Expr} {pos pos' tpos:Pos} {td ty tv:TE}
theorem pe_dget (hu:X.A.units+1<cLine) (ho:PE X o td) (hi:PE X i ty) (hs:NoSl i):PE X (.Subscript o i pos) (tDGet td ty):=by
  intro pins s σ H Q I h
  refine subD_of PySem.F.slot_dict_getitem.lookup hs (thn (ho pins s σ H _ I h) fun u s1 ⟨x,H1,I1,rx,q1⟩=>thn (hi pins s1 σ H1 _ I1 q1) fun iv s2 ⟨y,H2,I2,ry,a,v,ex,g,q2⟩=>?_)
  subst ex
  obtain rfl:u=Value.ref a:=rx
  exact ⟨dict_typeIs I2 g,d_getItem hu I2 g ry fun w' s3 I3 rw'=>⟨v,H2,I3,rw',q2⟩⟩
theorem ps_dput (hu:X.A.units+1<cLine) (ho:PE X o td) (hi:PE X i ty) (hv:PE X value tv) (hs:swapsWith value (some (.Subscript o i pos')) pos.line X.env=pure false) :
    PS X (.Assign [.Subscript o i pos'] value pos) (sDPut td ty tv):=by
  intro pins s σ H D I h
  refine wpAny_Assign_Subscript (thn (hv pins s σ H _ I h) fun r s1 ⟨v,H1,I1,rv,q1⟩=>thn (ho pins s1 σ H1 _ I1 q1) fun u s2 ⟨x,H2,I2,rx,q2⟩=>thn (hi pins s2 σ H2 _ I2 q2) fun iv s3 ⟨y,H3,I3,ry,a,H4,ex,g,q3⟩=>?_) hs
  subst ex
  obtain rfl:u=Value.ref a:=rx
  exact d_setItem hu I3 g ry rv fun s4 I4=>⟨σ,H4,I4,q3⟩
end
theorem dk_empty {P:Program} {w:World} {H:Hp} (h:Heap) (hb:sysModules<h.objs.size):ObjOk P w H (h.push {cls:=.type "dict",data:=.dict #[]}) h.objs.size (.dK []) :=
  ⟨Nat.zero_le _,beq_eq_false_iff_ne.mpr (Ne.symm (Nat.ne_of_lt hb)),[],.nil,Heap.DictOf.new h⟩
noncomputable def tDNewK:TE:=fun _ H Q=>∀ p,H p=none→Q (.ref p) (upd H p (.dK []))
section
variable {X:Cx} {pos:Pos}
theorem pe_dnewK:PE X (.Dict [] [] pos) tDNewK:=fun pins s σ H Q I h =>
  wpAny_Dict_empty ⟨.ref s.heap.objs.size,_,I.laid (a:=s.heap.objs.size) (o:=.dK []) (t':=s.toks) (fun _ _ q=>Heap.get?_push_of_some _ q) (Nat.le_refl _) (dk_empty s.heap I.big),rfl,h _ (I.hok.fresh (Nat.le_refl _))⟩
end
noncomputable def tPairs:List (TE×TE)→St→Hp→(List (V×V)→Hp→Prop)→Prop
  | [],_,H,Q=>Q [] H
  | (tk,tv)::r,σ,H,Q=>tk σ H fun x H1=>tv σ H1 fun y H2=>tPairs r σ H2 fun ps H3=>Q ((x,y)::ps) H3
noncomputable abbrev VV:List (V×V)→List (Value×Value)→Prop:=Paired fun p q=>RelV p.1 q.1∧RelV p.2 q.2
noncomputable def PPs (X:Cx) (pos:Pos) (keys:List (Option Expr)) (values:List Expr) (trs:List (TE×TE)):Prop :=
  ∀ (pins:List (Addr×Obj)) (s:Shared) (σ:St) (H:Hp) (Q:List (V×V)→Hp→Prop),Inv X pins σ H s→tPairs trs σ H Q→
    wpAny (model X.prog X.w) X.A (evalPairs (pairTrees keys values X.env pos)) (fun vs s'=>∃ ps H',Inv X pins σ H' s'∧VV ps vs∧Q ps H') X.xe s
theorem pps_nil {X:Cx} {pos:Pos}:PPs X pos [] [] []:=fun pins s σ H Q I h=>pairTrees_nil_walk ⟨[],H,I,.nil,h⟩
theorem pps_cons {X:Cx} {pos:Pos} {k v:Expr} {ks:List (Option Expr)} {vs:List Expr} {tk tv:TE} {trs:List (TE×TE)} (hk:PE X k tk) (hv:PE X v tv) (hr:PPs X pos ks vs trs) :
    PPs X pos (some k::ks) (v::vs) ((tk,tv)::trs):=fun pins s σ H Q I h =>
  pairTrees_cons_walk (thn (hk pins s σ H _ I h) fun u s1 ⟨x,H1,I1,rx,q1⟩=>thn (hv pins s1 σ H1 _ I1 q1) fun w2 s2 ⟨y,H2,I2,ry,q2⟩ =>
    thn (hr pins s2 σ H2 _ I2 q2) fun ws s3 ⟨ps,H3,I3,rel,q3⟩=>⟨(x,y)::ps,H3,I3,.cons ⟨rx,ry⟩ rel,q3⟩)
noncomputable def mergeK (kvs more:List (Key×V)):List (Key×V):=more.foldl (fun acc kv=>putK acc kv.1 kv.2) kvs
theorem KV.merge:∀ {more:List (Key×V)} {rs:List (Key×Value)} {kvs:List (Key×V)} {vs:List (Key×Value)},KV more rs→KV kvs vs→KV (mergeK kvs more) (merged vs rs):=by
  intro more rs kvs vs r
  unfold KV at r
  induction r generalizing kvs vs with
  | nil=>intro q;exact q
  | @cons p q ps qs h t ih =>
    intro r0
    have e:KV (putK kvs p.1 p.2) (stored vs q.1 q.2):=by
      have:=r0.put p.1 h.2
      rw [← h.1];exact this
    exact ih e
theorem length_mergeK:∀ (more kvs:List (Key×V)),(mergeK kvs more).length≤kvs.length+more.length
  | [],kvs=>by show kvs.length≤kvs.length+0;omega
  | p::r,kvs=>by
    have h1:=length_mergeK r (putK kvs p.1 p.2)
    have h2:=length_putK kvs p.1 p.2
    show (mergeK (putK kvs p.1 p.2) r).length≤_
    rw [List.length_cons];omega
theorem carries_of {P:Program} {w:World}:∀ {kvs:List (Key×V)} {ws:List (Value×Value)},VV (kvs.map fun kv=>(kV kv.1,kv.2)) ws→∃ rs,Carries (mixKind P w) ws rs∧KV kvs rs
  | [],_,r=>by rw [List.map_nil] at r;cases r;exact ⟨[],True.intro,.nil⟩
  | p::kvs,_,r=>by
    rw [List.map_cons] at r
    cases r with
    | @cons a b as bs h t =>
      obtain ⟨rs,c,q⟩:=carries_of (P:=P) (w:=w) t
      obtain ⟨b1,b2⟩:=b
      exact ⟨(p.1,b2)::rs,⟨kV_is h.1,rfl,c⟩,.cons ⟨rfl,h.2⟩ q⟩
noncomputable def tDisp (trs:List (TE×TE)):TE:=fun σ H Q=>∀ p,H p=none→tPairs trs σ (upd H p (.dK [])) fun ps H2=>H2 p=some (.dK [])∧∃ kvs:List (Key×V),ps=kvs.map (fun kv=>(kV kv.1,kv.2))∧kvs.length≤15∧Q (.ref p) (upd H2 p (.dK (mergeK [] kvs)))
theorem pe_disp {X:Cx} {pos:Pos} {keys:List (Option Expr)} {values:List Expr} {trs:List (TE×TE)} (h:PPs X pos keys values trs) (hall:keys.all (·.isSome)=true) (hl:keys.length=values.length) (h0:keys≠[])
    (h15:keys.length≤15):PE X (.Dict keys values pos) (tDisp trs):=by
  intro pins s σ H Q I q
  have hn:=I.hok.fresh (Nat.le_refl s.heap.objs.size)
  have I1:=I.laid (a:=s.heap.objs.size) (o:=.dK []) (h':=s.heap.push {cls:=.type "dict",data:=.dict #[]}) (t':=s.toks) (fun _ _ q=>Heap.get?_push_of_some _ q) (Nat.le_refl _) (dk_empty s.heap I.big)
  refine wpAny_Dict_walk (knd:=mixKind X.prog X.w) hall hl h0 h15 (thn (h pins _ σ _ _ I1 (q _ hn)) fun ws s2 ⟨ps,H2,I2,rel,e,kvs,ep,lk,q2⟩=>?_)
  subst ep
  obtain ⟨rs,c,rk⟩:=carries_of (P:=X.prog) (w:=X.w) rel
  obtain ⟨z,hd,vs0,r0,dd⟩:=dk_of I2.hok e
  cases r0
  refine ⟨rs,c,dd,fun h' dd' hs=>⟨.ref s.heap.objs.size,_,?_,rfl,q2⟩⟩
  have hz:(mergeK [] kvs).length≤sizeLine:=by
    have h1:=length_mergeK kvs []
    rw [List.length_nil] at h1
    rw [sizeLine_eq];omega
  have he:∃ q,h'.get? s.heap.objs.size=some q:=let ⟨q,_,_,hq,_⟩:=dd';⟨q,hq⟩
  exact d_write I2 (by rw [e];exact True.intro) hs he (dk_new hz hd (rk.merge .nil) dd')
structure M2 (X:Cx) (o:Expr) (m:Str) (apos:Pos) (e f:Expr) (cpos:Pos):Prop where
  base:attributeBase o m X.env (eval o X.env)=eval o X.env
  few:((backTo cpos (starEach [e,f] X.env)).all (fun x=>!x.1)&&(backToKw cpos (keywordEach [] X.env)).all (fun x=>x.1.isSome)
    && decide (([e,f]:List Expr).length+([]:List Keyword).length+(if ([]:List Keyword).isEmpty then 0 else 1)<30))=true
  line:(apos.endLine==cpos.line)=true
  trees:backTo cpos (starEach [e,f] X.env)=[(false,eval e X.env),(false,eval f X.env)]
noncomputable def IsD (H:Hp) (a:Addr):Prop:=(∃ kvs,Rd H a (.dK kvs))∨∃ kvs,Rd H a (.dT kvs)
theorem isD_at {X:Cx} {pins:List (Addr×Obj)} {σ:St} {H:Hp} {s:Shared} {a:Addr} (I:Inv X pins σ H s) (d:IsD H a) :
    s.TypeIs (.ref a) "dict"∧(∀ b,Value.ref a=.ref b→∃ ob,s.heap.get? b=some ob∧ob.dict=none)∧(a==sysModules)=false:=by
  rcases d with ⟨kvs,e⟩ | ⟨kvs,e⟩
  · obtain ⟨_,hd,vs,_,dd⟩:=dk_rd I.hok e
    refine ⟨dd.typeIs,fun b q=>?_,hd⟩
    cases q
    obtain ⟨ob,_,_,h1,h2,_⟩:=dd
    exact ⟨ob,h1,h2.2.1⟩
  · obtain ⟨_,hd,xs,_,dd⟩:=dt_rd I.hok e
    refine ⟨dd.typeIs,fun b q=>?_,hd⟩
    cases q
    obtain ⟨ob,_,_,h1,h2,_⟩:=dd
    exact ⟨ob,h1,h2.2.1⟩
section
variable {X:Cx} {pins:List (Addr×Obj)} {σ:St} {H:Hp} {s:Shared} {a:Addr} {y d:V} {u r:Value} {o:Option V} {A:Around} {E:Value→Shared→Prop}
theorem d_get2 {Q:Value→Shared→Prop} (hu:A.units+1<cLine) (I:Inv X pins σ H s) (g:DGet H a y o) (ry:RelV y u) (rd:RelV d r) (h:∀ w' s',Inv X pins σ H s'→RelV (o.getD d) w'→Q w' s') :
    wpAny (model X.prog X.w) A (call (.builtin "dict.get") [.ref a,u,r]) Q E s:=by
  rcases g with ⟨kvs,k,e,ey,l⟩ | ⟨kvs,k,b,e,ey,eb,l⟩
  · subst ey
    obtain ⟨z,hd,vs,rel,dd⟩:=dk_rd I.hok e
    refine call_meetsIn PySem.F.slot_dict_get dd.typeIs PySem.F.entry_dict_get (PySem.F.args_dict_get_3 _ _ _) (meets_dict_get_default (mixKind X.prog X.w) a (kV_is ry) hd r) ⟨_,dd.mapOf,h _ _ (I.tok _) ?_⟩
    rw [l]
    exact (rel.val k).getD rd
  · subst ey
    cases (show u=Value.ref b from ry)
    obtain ⟨z,hd,xs,rel,dd⟩:=dt_rd I.hok e
    refine call_meetsIn PySem.F.slot_dict_get dd.typeIs PySem.F.entry_dict_get (PySem.F.args_dict_get_3 _ _ _) (meetsH_dict_get_default (tupleKind (mixKind X.prog X.w)) a b hd r) ⟨tupleKind_room_in1 hu,k,xs,key_of I.hok eb,dd,h _ _ (I.tok _) ?_⟩
    rw [l]
    exact (rel.val k).getD rd
end
noncomputable def tDGet2 (td ty tx:TE):TE:=fun σ H Q=>td σ H fun x H1=>∃ a,x=.ref a∧IsD H1 a∧ty σ H1 fun y H2=>tx σ H2 fun z H3=>∃ o,DGet H3 a y o∧Q (o.getD z) H3
section
variable {X:Cx} {o e f:Expr} {apos cpos:Pos} {td ty tx:TE}
theorem pe_dget2 (hu:X.A.units+1<cLine) (ho:PE X o td) (he:PE X e ty) (hf:PE X f tx) (m:M2 X o "get" apos e f cpos):PE X (.Call (.Attribute o "get" apos) [e,f] [] cpos) (tDGet2 td ty tx):=by
  intro pins s σ H Q I h
  refine wpAny_Call_method m.base m.few m.line PySem.F.plainAttrs_dict PySem.F.slot_dict_get PySem.F.type_dict_get (thn (ho pins s σ H _ I h) fun u s1 ⟨x,H1,I1,rx,a,ex,d,q1⟩=>?_)
  subst ex
  obtain rfl:u=Value.ref a:=rx
  obtain ⟨t1,t2,_⟩:=isD_at I1 d
  refine ⟨t1,t2,?_⟩
  rw [m.trees]
  refine Calls.callWith_builtin rfl (Calls.evalArgs_plain (Calls.spliced_cons (thn (he pins s1 σ H1 _ I1 q1) fun iv s2 ⟨y,H2,I2,ry,q2⟩ =>
    Calls.spliced_cons (thn (hf pins s2 σ H2 _ I2 q2) fun fv s3 ⟨z,H3,I3,rz,ov,g,q3⟩=>Calls.spliced_nil ?_))))
  exact d_get2 hu I3 g ry rz fun w' s4 I4 rw'=>⟨_,H3,I4,rw',q3⟩
end
section
variable {X:Cx} {pins:List (Addr×Obj)} {σ:St} {H:Hp} {s:Shared} {a:Addr} {kvs:List (Key×V)} {A:Around} {E:Value→Shared→Prop}
end
section
variable {X:Cx} {pins:List (Addr×Obj)} {σ:St} {H:Hp} {s:Shared} {a:Addr} {y:V} {u:Value} {A:Around} {E:Value→Shared→Prop}
end
end L2
namespace L2
open PySem PySem.Spec PyProof.Rows
section
variable {X:Cx}
end
section
variable {κ:Type} [DecidableEq κ]
end
end L2
namespace L2
open PySem PySem.Spec PyProof.Rows
section
variable {X:Cx}
theorem its_int {ns:List Int} {its:List Value} (rv:Vals (ns.map V.int) its) {i:Nat} {v:Value} (hv:its[i]?=some v):∃ n t,ns[i]?=some n∧v=.int n t:=by
  cases eb:ns[i]? with
  | none =>
    have:=rv.none_of (i:=i) (by rw [List.getElem?_map,eb];rfl)
    rw [this] at hv;cases hv
  | some b =>
    obtain ⟨u,hu,ru⟩:=rv.get (i:=i) (x:=.int b) (by rw [List.getElem?_map,eb];rfl)
    rw [hu] at hv;cases hv
    obtain ⟨t,rfl⟩:=ru
    exact ⟨b,t,rfl,rfl⟩
theorem call_maxL (hc:X.calm=true):CallR X (.builtin "max") (fun xs H Q=>∃ (p:Addr) (ns:List Int),xs=[.ref p]∧SqL X.K H p (ns.map V.int)∧0<ns.length∧Q (.int (Ma.maxL ns)) H):=by
  intro pins s σ H xs us Q I r h
  obtain ⟨p,ns,rfl,hq,hne,q⟩:=h
  obtain ⟨u,rfl,rx⟩:=vals1 r
  cases rx
  obtain ⟨its,rv,pl,hz⟩:=I.list hq
  have hl:=pl.isList
  have hlt:p<s.heap.objs.size:=by obtain ⟨_,e,_⟩:=hl;exact Heap.lt_size e
  have hn:its.toArray.size=ns.length:=by rw [List.size_toArray,← rv.length,List.length_map]
  have hval:∀ (i:Nat) (v:Value),its.toArray[i]?=some v→∃ t,v=.int ((fun i=>(ns[i]?).getD 0) i) t:=fun i v hP=>by
    obtain ⟨n,t,e,rfl⟩:=its_int rv (i:=i) (v:=v) (by simpa using hP)
    exact ⟨t,by simp [e]⟩
  refine call_max_walk (wpAny_pyIter_list hl ?_)
  refine ⟨_,_,_,_,_,_,_,rfl,Walks.list (A:=X.A.in1) (I.ok.hd hc) s.heap.objs.size p (Nat.ne_of_lt hlt) its.toArray,⟨⟨_,Heap.get?_push_size _ rfl,rfl,rfl⟩,hl.push _⟩,fun b hb'=>?_,by lia,CmpOf.ints_gt (fun i=>(ns[i]?).getD 0) hval,fun v h' tk hP hk=>?_⟩
  · show b<(s.heap.push _).objs.size
    rw [Heap.size_push]
    rcases List.mem_cons.mp hb' with rfl | hb'
    · exact Nat.lt_succ_self _
    · have e:b=p:=by simpa using hb'
      rw [e];exact Nat.lt_succ_of_lt hlt
  · rw [hn] at hP
    have ab:=argBest_gt (fun i=>(ns[i]?).getD 0) (ns.length - 1)
    obtain ⟨n,t,e,rfl⟩:=its_int rv (i:=argBest (fun i j=>decide ((ns[i]?).getD 0>(ns[j]?).getD 0)) (ns.length - 1)) (v:=v) (by simpa using hP)
    have em:n=Ma.maxL ns:=Ma.maxL_uniq (List.mem_of_getElem? e) fun m hm=>by
      obtain ⟨j,hj⟩:=List.getElem?_of_mem hm
      have hjl:=(List.getElem?_eq_some_iff.mp hj).1
      have a2:=ab.2 j (by lia)
      simp only [hj,e,Option.getD_some] at a2
      exact a2
    subst em
    exact ⟨.int _,H,(show Inv X pins σ H {s with heap:=h',toks:=tk} from seen I hk),⟨_,rfl⟩,q⟩
theorem call_minL (hc:X.calm=true):CallR X (.builtin "min") (fun xs H Q=>∃ (p:Addr) (ns:List Int),xs=[.ref p]∧SqL X.K H p (ns.map V.int)∧0<ns.length∧Q (.int (Ma.minL ns)) H):=by
  intro pins s σ H xs us Q I r h
  obtain ⟨p,ns,rfl,hq,hne,q⟩:=h
  obtain ⟨u,rfl,rx⟩:=vals1 r
  cases rx
  obtain ⟨its,rv,pl,hz⟩:=I.list hq
  have hl:=pl.isList
  have hlt:p<s.heap.objs.size:=by obtain ⟨_,e,_⟩:=hl;exact Heap.lt_size e
  have hn:its.toArray.size=ns.length:=by rw [List.size_toArray,← rv.length,List.length_map]
  have hval:∀ (i:Nat) (v:Value),its.toArray[i]?=some v→∃ t,v=.int ((fun i=>(ns[i]?).getD 0) i) t:=fun i v hP=>by
    obtain ⟨n,t,e,rfl⟩:=its_int rv (i:=i) (v:=v) (by simpa using hP)
    exact ⟨t,by simp [e]⟩
  refine call_min_walk (wpAny_pyIter_list hl ?_)
  refine ⟨_,_,_,_,_,_,_,rfl,Walks.list (A:=X.A.in1) (I.ok.hd hc) s.heap.objs.size p (Nat.ne_of_lt hlt) its.toArray,⟨⟨_,Heap.get?_push_size _ rfl,rfl,rfl⟩,hl.push _⟩,fun b hb'=>?_,by lia,CmpOf.ints_lt (fun i=>(ns[i]?).getD 0) hval,fun v h' tk hP hk=>?_⟩
  · show b<(s.heap.push _).objs.size
    rw [Heap.size_push]
    rcases List.mem_cons.mp hb' with rfl | hb'
    · exact Nat.lt_succ_self _
    · have e:b=p:=by simpa using hb'
      rw [e];exact Nat.lt_succ_of_lt hlt
  · rw [hn] at hP
    have ab:=argBest_lt (fun i=>(ns[i]?).getD 0) (ns.length - 1)
    obtain ⟨n,t,e,rfl⟩:=its_int rv (i:=argBest (fun i j=>decide ((ns[i]?).getD 0<(ns[j]?).getD 0)) (ns.length - 1)) (v:=v) (by simpa using hP)
    have em:n=Ma.minL ns:=Ma.minL_uniq (List.mem_of_getElem? e) fun m hm=>by
      obtain ⟨j,hj⟩:=List.getElem?_of_mem hm
      have hjl:=(List.getElem?_eq_some_iff.mp hj).1
      have a2:=ab.2 j (by lia)
      simp only [hj,e,Option.getD_some] at a2
      exact a2
    subst em
    exact ⟨.int _,H,(show Inv X pins σ H {s with heap:=h',toks:=tk} from seen I hk),⟨_,rfl⟩,q⟩
end
end L2
namespace L2
open PySem PySem.Spec PyProof.Rows
theorem rel_key {k:Key} {v:Value} (h:keyIs k v=true):RelV (kV k) v:=by
  rcases keyIs_shape h with ⟨i,t,rfl,rfl⟩ | ⟨x,t,rfl,rfl⟩ <;> exact ⟨_,rfl⟩
theorem KV.at {kvs:List (Key×V)} {vs:List (Key×Value)} (r:KV kvs vs):∀ {i:Nat} {p:Key×V},kvs[i]?=some p→∃ u,vs[i]?=some (p.1,u)∧RelV p.2 u:=by
  unfold KV at r
  induction r with
  | nil=>intro i p e;simp at e
  | @cons a b as bs h t ih =>
    intro i p e
    cases i with
    | zero =>
      simp at e
      subst e
      exact ⟨b.2,by rw [h.1];rfl,h.2⟩
    | succ i=>simpa using ih (i:=i) (p:=p) (by simpa using e)
section
variable {X:Cx} {pins:List (Addr×Obj)} {σ:St} {H:Hp} {s:Shared} {a:Addr} {o:Obj} {kvs:List (Key×V)}
theorem Inv.freeze (I:Inv X pins σ H s) (e:H a=some (.dK kvs)) (ho:s.heap.get? a=some o):Inv X pins σ (upd H a (.frz o (.dK kvs))) s :=
  I.write (x:=a) (e:=a) (t':=s.toks) (h':=s.heap) (by rw [e];trivial) (.inl rfl) (fun b q _ z=>z) ⟨o,ho⟩ ⟨ho,I.hok a _ e⟩
theorem Inv.thaw (I:Inv X pins σ H s) (e:H a=some (.frz o (.dK kvs))) (hb:∀ o u,X.H₀ a≠some (.frz o u)):Inv X pins σ (upd H a (.dK kvs)) s:=by
  have ne:∀ b,H b=none→b≠a:=fun b n z=>by rw [z,e] at n;cases n
  refine ⟨I.ok,I.os,I.bare,⟨I.base.keep,I.base.slot,fun b ob q n hx=>?_,I.base.there,fun b xs q=>?_,fun b ob u q=>?_,fun b ps q=>?_⟩,I.loc,I.cell,?_,fun x c q=>?_,fun p hp=>?_,fun b u q=>?_,I.len⟩
  · have:=I.base.free b ob q n hx
    rw [upd_ne (ne b this)];exact this
  · have q':=I.base.tups b xs q
    rw [upd_ne (fun z=>by rw [z,e] at q';cases q')];exact q'
  · have q':=I.base.frzs b ob u q
    rw [upd_ne (fun z=>hb ob u (by rw [← z];exact q))];exact q'
  · obtain ⟨m,q'⟩:=I.base.tbls b ps q
    exact ⟨m,by rw [upd_ne (fun z=>by rw [z,e] at q';cases q')];exact q'⟩
  · rw [upd_ne (ne _ I.free)];exact I.free
  · rw [upd_ne (ne _ (I.freeC x c q))];exact I.freeC x c q
  · obtain ⟨h1,h2,h3⟩:=I.pin p hp
    exact ⟨h1,by rw [upd_ne (ne _ h2)];exact h2,h3⟩
  · by_cases hba:b=a
    · subst hba
      rw [upd_same] at q
      cases q
      exact (I.hok b _ e).2
    · rw [upd_ne hba] at q
      refine (I.hok b u q).stay (fun _ _ _ z=>z) (fun c z=>?_) fun c xs z=>?_
      · rw [upd_ne (fun y=>by rw [y,e] at z;cases z)];exact z
      · rw [upd_ne (fun y=>by rw [y,e] at z;cases z)];exact z
noncomputable def tThaw (H₀:Hp) (u:TS):TS:=fun D σ H=>∃ a o kvs,H a=some (.frz o (.dK kvs))∧(∀ o u,H₀ a≠some (.frz o u))∧u D σ (upd H a (.dK kvs))
theorem pss_thaw {rest:List Stmt} {u:TS} (h:PSs X rest u):PSs X rest (tThaw X.H₀ u):=fun pins s σ H D I q=>by
  obtain ⟨a,o,kvs,e,hb,q⟩:=q
  exact h pins s σ _ D (I.thaw e hb) q
end
noncomputable def Itd (a:Addr) (o:Obj) (kvs:List (Key×V)):It :=
  ⟨fun i H=>H a=some (.frz o (.dK kvs))∧i<kvs.length,fun i H x H'=>H'=H∧∃ k v,kvs[i]?=some (k,v)∧x=kV k,fun i H=>H a=some (.frz o (.dK kvs))∧kvs.length≤i⟩
theorem turn_dict {P:Program} {w:World} {K:PySem.W.Frag} {tg:Expr} {a it:Addr} {o:Obj} {kvs:List (Key×V)} {vs:List (Key×Value)} {ep:Nat} (rel:KV kvs vs)
    (da:∀ h:Heap,h.get? a=some o→h.DictAt (mixKind P w) a vs ep):Turn P w K tg (Itd a o kvs) [it] it (fun i h=>h.IsKeyIter it a i vs.length ep) where
  mem:=by simp
  obj:=fun i h st b hb=>by
    have e:b=it:=by simpa using hb
    subst e
    obtain ⟨o,e,c,d⟩:=st
    exact ⟨o,e,fun v z=>by rw [d] at z;cases z⟩
  keep:=fun i h h' st k=>st.at fun o e=>k it (by simp) o e
  item:=by
    intro X hP hw hK hc i pins s σ H E I hf st hg
    subst hP hw hK
    obtain ⟨hq,hi⟩:=hg
    obtain ⟨f0,f1,f2,f3,f4,f5⟩:=hf it (by simp)
    have hx:kvs[i]?=some kvs[i]:=by simp [hi]
    obtain ⟨u,hu,ru⟩:=rel.at hx
    refine wpAny_pyNext_dict_item st (da _ (I.hok a _ hq).1) hu fun key h' hk st' sb=>?_
    have I1:Inv X pins σ H {s with heap:=h'}:=I.turned (t':=s.toks) (fun b o hb e=>(sb.2 b hb).trans e) f0 f1 f3 f4 f5
    obtain ⟨oi,e,c,d⟩:=id st'
    exact ⟨key,rfl,go_of (s:={s with heap:=h'}) e c d (by decide) ⟨kV (kvs[i]).1,H,I1,rel_key hk,⟨rfl,(kvs[i]).1,(kvs[i]).2,hx,rfl⟩,st',fun b hb=>(hf b hb).1⟩⟩
  done:=by
    intro X hP hw hK hc i pins s σ H E I hf st hg
    subst hP hw hK
    obtain ⟨hq,hi⟩:=hg
    obtain ⟨f0,f1,f2,f3,f4,f5⟩:=hf it (by simp)
    have hl:=rel.length
    exact wpAny_pyNext_dict_end (I.ok.hd hc) st (da _ (I.hok a _ hq).1) (by simp;lia) fun h' eb=>⟨rfl,I.turned (t':=s.toks) (fun b o hb e=>eb b o hb e) f0 f1 f3 f4 f5⟩
  self:=fun _ _ _ _ _ st h=>wpAny_pyIter_keyiter st h
noncomputable def iDict (tl:TE):TI:=fun σ H R=>tl σ H fun x H1=>∃ a kvs,x=.ref a∧H1 a=some (.dK kvs)∧∀ o,R (Itd a o kvs) (upd H1 a (.frz o (.dK kvs)))
theorem pi_dict {X:Cx} {tg l:Expr} {tl:TE} (hl:PE X l tl):PI X tg l (iDict tl):=by
  intro pins s σ H R I h
  refine thn (hl pins s σ H _ I h) fun v s1 ⟨x,H1,I1,r1,q1⟩=>?_
  obtain ⟨a,kvs,e,he,q⟩:=q1
  subst e
  cases r1
  obtain ⟨z,hd,vs,rel,o,es,ep,ho,dd⟩:=dk_of I1.hok he
  refine wpAny_pyIter_dict hd (ep:=ep) ⟨o,es,ho,dd⟩ ?_
  have I2:=I1.freeze he ho
  refine ⟨s1.heap.objs.size,[s1.heap.objs.size],_,_,_,rfl,I2.kept (t':=s1.toks) fun b o e=>Heap.get?_push_of_some _ e,turn_dict (ep:=ep) rel fun h e=>⟨o,es,e,dd⟩,⟨_,Heap.get?_push_size _ rfl,rfl,rfl⟩,fun b hb=>?_,q o⟩
  have e:b=s1.heap.objs.size:=by simpa using hb
  subst e
  exact I2.fpOk (Nat.le_refl _) (I2.hok.fresh (Nat.le_refl _))
theorem for_dict {a:Addr} {o:Obj} {kvs:List (Key×V)} {g:TG} {tb:TS} {D:Ends} {σ:St} {H:Hp} (Pv:Nat→St→Hp→Prop) (h0:Pv 0 σ H) (hl:∀ i σ H,i≤kvs.length→Pv i σ H→H a=some (.frz o (.dK kvs)))
    (hs:∀ i k v σ H,kvs[i]?=some (k,v)→Pv i σ H→g (kV k) σ H fun σ2 H2=>tb {D with nx:=Pv (i+1),ct:=Pv (i+1),bk:=D.nx} σ2 H2) (hd:∀ σ H,Pv kvs.length σ H→D.nx σ H) :
    ∃ W:Nat→Nat→St→Hp→Prop,(∃ m,W 0 m σ H)∧∀ i m σ H,W i m σ H→
      ((Itd a o kvs).stop i H∧D.nx σ H)∨((Itd a o kvs).go i H∧∃ N:St→Hp→Prop,(∀ σ' H',N σ' H'→∃ m',m'<m∧W (i+1) m' σ' H')∧∀ x H',(Itd a o kvs).yld i H x H'→g x σ H' fun σ2 H2=>tb {D with nx:=N,ct:=N,bk:=D.nx} σ2 H2):=by
  refine ⟨fun i m σ H=>m=kvs.length - i∧i≤kvs.length∧Pv i σ H,⟨kvs.length,by simp,Nat.zero_le _,h0⟩,?_⟩
  rintro i m σ H ⟨rfl,hi,p⟩
  have q:=hl i σ H hi p
  by_cases hlt:i<kvs.length
  · refine .inr ⟨⟨q,hlt⟩,Pv (i+1),fun σ' H' p'=>⟨kvs.length - (i+1),by lia,rfl,hlt,p'⟩,fun x H' y=>?_⟩
    obtain ⟨e,k,v,hk,rfl⟩:=y
    subst e
    exact hs i k v σ _ hk p
  · have e:i=kvs.length:=by lia
    subst e
    exact .inl ⟨⟨q,Nat.le_refl _⟩,hd σ H p⟩
end L2
namespace L2
open PySem PySem.Spec PyProof.Rows
end L2
namespace Srt
open PySem PyProof.Rows
structure Ok (a₀:Array Keyed) (p:Array (Nat×Nat×Nat)) (st:SortSt):Prop where
  perm:(arrOf st).Perm a₀
  kind:kindOf st=oneType'
  failed:failedOf st=none
  pend:pendingOf st=p
noncomputable abbrev IntK (x:Keyed):Prop:=∃ n t,x.1=.int n t
section
variable {prog:Program} {w:World} {A:Around} {E:Value→Shared→Prop} {s:Shared} {a₀:Array Keyed} {p:Array (Nat×Nat×Nat)} {st:SortSt}
theorem Ok.size (h:Ok a₀ p st):(arrOf st).size=a₀.size:=h.perm.size_eq
theorem Ok.set (h:Ok a₀ p st) {xs:Array Keyed} (hp:xs.Perm (arrOf st)):Ok a₀ p (setArr st xs):=⟨hp.trans h.perm,h.kind,h.failed,h.pend⟩
theorem Ok.keys (h:Ok a₀ p st) (h0:IntKeys a₀):IntKeys (arrOf st):=fun x hx=>h0 x ((Array.perm_iff_toList_perm.mp h.perm).mem_iff.mp hx)
theorem keys_at {xs:Array Keyed} (h:IntKeys xs) {i:Nat} (hi:i<xs.size):IntK xs[i]:=h _ (by simp)
theorem wpS_lt {x y:Keyed} {Q:Option Bool→SortSt→Prop} (hk:kindOf st=oneType') (hx:IntK x) (hy:IntK y) (h:∀ r,Q (some r) st):wpS (model prog w) A E s (lt' x y) Q st:=by
  obtain ⟨a,t,hx⟩:=hx
  obtain ⟨b,u,hy⟩:=hy
  rw [lt'_eq]
  refine wpS_bind (wpS_get ?_)
  rw [hk,keyLt'_oneType,hx,hy]
  refine wpS_bind (wpS_lift (wpAny_attempt (oneLt_int ⟨rfl,?_⟩)))
  exact wpS_pure (h _)
theorem wpS_elem {arr:Array Keyed} {i:Nat} {Q:Keyed→SortSt→Prop} (hi:i<arr.size) (h:Q arr[i] st):wpS (model prog w) A E s (elem' arr i) Q st:=by
  rw [elem'_eq,getElem?_pos arr i hi]
  exact wpS_pure h
theorem wpS_ltP {i j:Nat} {Q:Option Bool→SortSt→Prop} (ok:Ok a₀ p st) (h0:IntKeys a₀) (hi:i<a₀.size) (hj:j<a₀.size) (h:∀ r,Q (some r) st):wpS (model prog w) A E s (ltAt' i j) Q st:=by
  rw [ltAt'_eq]
  refine wpS_bind (wpS_get ?_)
  have sz:=ok.size
  have hk:=ok.keys h0
  exact wpS_bind (wpS_elem (by lia) (wpS_bind (wpS_elem (by lia) (wpS_lt ok.kind (keys_at hk _) (keys_at hk _) h))))
theorem wpS_rev {i j:Nat} {Q:Unit→SortSt→Prop} (ok:Ok a₀ p st) (h:∀ st',Ok a₀ p st'→Q () st'):wpS (model prog w) A E s (reverseSlice' i j) Q st:=by
  rw [reverseSlice'_eq]
  exact wpS_modify (h _ (ok.set (mirror_perm _ _ _ _)))
theorem wpS_down {i j:Nat} {Q:Unit→SortSt→Prop} (ok:Ok a₀ p st) (h:∀ st',Ok a₀ p st'→Q () st'):wpS (model prog w) A E s (moveDown' i j) Q st:=by
  rw [moveDown'_eq]
  exact wpS_modify (h _ (ok.set (bubble_perm _ _ _)))
theorem wpS_count {lo nrem:Nat} {Q:Option Nat→SortSt→Prop} (h0:IntKeys a₀) (hn:lo+nrem≤a₀.size) (h1:1≤nrem) (ok:Ok a₀ p st)
    (h:∀ m st',Ok a₀ p st'→1≤m→m≤nrem→Q (some m) st'):wpS (model prog w) A E s (countRun' lo nrem) Q st:=by
  rw [countRun'_eq]
  refine wpS_bind (wpS_mono (wpS_forRange (I:=fun x c st'=>c=(none,x)∧Ok a₀ p st') (Q:=fun c st'=>∃ n,c=(none,n)∧1≤n∧n≤nrem∧Ok a₀ p st') ?step ?fin ⟨rfl,ok⟩) ?post)
  case step =>
    rintro x c st' hx1 hx2 ⟨rfl,ok'⟩
    refine wpS_bind (wpS_ltP ok' h0 (by lia) (by lia) fun r=>?_)
    cases r with
    | true=>exact wpS_pure ⟨x,rfl,hx1,by lia,ok'⟩
    | false=>exact wpS_pure ⟨rfl,ok'⟩
  case fin =>
    rintro c st' ⟨rfl,ok'⟩
    exact ⟨max 1 nrem,rfl,by lia,by lia,ok'⟩
  case post =>
    rintro c st' ⟨n,rfl,hn1,hn2,ok'⟩
    dsimp only
    by_cases hnn:n=nrem
    · rw [if_pos (by simpa using hnn)]
      exact wpS_pure (h n _ ok' hn1 hn2)
    · rw [if_neg (by simpa using hnn)]
      by_cases hgt:n>1
      · rw [if_pos hgt]
        refine wpS_bind (wpS_ltP ok' h0 (by lia) (by lia) fun r=>?_)
        cases r with
        | true=>exact wpS_pure (h n _ ok' hn1 hn2)
        | false =>
          dsimp only
          rw [if_neg Bool.false_ne_true]
          refine wpS_bind (wpS_rev ok' fun st4 ok4=>?_)
          refine wpS_bind (wpS_lift (wpAny_rule ⟨rfl,?_⟩))
          refine wpS_bind (wpS_mono (wpS_forRange (I:=fun x c st'=>(∃ q,c=(none,x,q))∧Ok a₀ p st') (Q:=fun c st'=>∃ m q,c=(none,m,q)∧1≤m∧m≤nrem∧Ok a₀ p st') ?_ ?_ ⟨⟨0,rfl⟩,ok4⟩) ?_)
          · rintro x c st' hx1 hx2 ⟨⟨q,rfl⟩,ok'⟩
            dsimp only
            refine wpS_bind (wpS_ltP ok' h0 (by lia) (by lia) fun r=>?_)
            cases r with
            | true =>
              dsimp only
              by_cases hq:q>0
              · rw [if_pos rfl,if_pos hq]
                exact wpS_bind (wpS_rev ok' fun st2 ok2=>wpS_pure ⟨⟨0,rfl⟩,ok2⟩)
              · rw [if_pos rfl,if_neg hq]
                exact wpS_pure ⟨⟨0,rfl⟩,ok'⟩
            | false =>
              dsimp only
              rw [if_neg Bool.false_ne_true]
              refine wpS_bind (wpS_ltP ok' h0 (by lia) (by lia) fun r=>?_)
              cases r with
              | true=>exact wpS_pure ⟨x,q,rfl,by lia,by lia,ok'⟩
              | false=>exact wpS_pure ⟨⟨q+1,rfl⟩,ok'⟩
          · rintro c st' ⟨⟨q,rfl⟩,ok'⟩
            exact ⟨_,q,rfl,by lia,by lia,ok'⟩
          · rintro c st' ⟨m,q,rfl,hm1,hm2,ok2⟩
            dsimp only
            by_cases hq:q>0
            · rw [if_pos hq]
              refine wpS_bind (wpS_rev ok2 fun st3 ok3=>?_)
              refine wpS_bind (wpS_rev ok3 fun stY okY=>?_)
              refine wpS_bind (wpS_mono (wpS_forRange (I:=fun x c st'=>c=(none,x)∧Ok a₀ p st') (Q:=fun c st'=>∃ n,c=(none,n)∧1≤n∧n≤nrem∧Ok a₀ p st') ?_ ?_ ⟨rfl,okY⟩) ?_)
              · rintro x c st' hx1 hx2 ⟨rfl,ok'⟩
                refine wpS_bind (wpS_ltP ok' h0 (by lia) (by lia) fun r=>?_)
                cases r with
                | true=>exact wpS_pure ⟨x,rfl,by lia,by lia,ok'⟩
                | false=>exact wpS_pure ⟨rfl,ok'⟩
              · rintro c st' ⟨rfl,ok'⟩
                exact ⟨_,rfl,by lia,by lia,ok'⟩
              · rintro c st' ⟨n,rfl,hn1,hn2,ok'⟩
                exact wpS_pure (h n _ ok' hn1 hn2)
            · rw [if_neg hq]
              refine wpS_bind (wpS_rev ok2 fun stY okY=>?_)
              refine wpS_bind (wpS_mono (wpS_forRange (I:=fun x c st'=>c=(none,x)∧Ok a₀ p st') (Q:=fun c st'=>∃ n,c=(none,n)∧1≤n∧n≤nrem∧Ok a₀ p st') ?_ ?_ ⟨rfl,okY⟩) ?_)
              · rintro x c st' hx1 hx2 ⟨rfl,ok'⟩
                refine wpS_bind (wpS_ltP ok' h0 (by lia) (by lia) fun r=>?_)
                cases r with
                | true=>exact wpS_pure ⟨x,rfl,by lia,by lia,ok'⟩
                | false=>exact wpS_pure ⟨rfl,ok'⟩
              · rintro c st' ⟨rfl,ok'⟩
                exact ⟨_,rfl,by lia,by lia,ok'⟩
              · rintro c st' ⟨n,rfl,hn1,hn2,ok'⟩
                exact wpS_pure (h n _ ok' hn1 hn2)
      · rw [if_neg hgt]
        refine wpS_bind (wpS_lift (wpAny_rule ⟨rfl,?_⟩))
        refine wpS_bind (wpS_mono (wpS_forRange (I:=fun x c st'=>(∃ q,c=(none,x,q))∧Ok a₀ p st') (Q:=fun c st'=>∃ m q,c=(none,m,q)∧1≤m∧m≤nrem∧Ok a₀ p st') ?_ ?_ ⟨⟨0,rfl⟩,ok'⟩) ?_)
        · rintro x c st' hx1 hx2 ⟨⟨q,rfl⟩,ok'⟩
          dsimp only
          refine wpS_bind (wpS_ltP ok' h0 (by lia) (by lia) fun r=>?_)
          cases r with
          | true =>
            dsimp only
            by_cases hq:q>0
            · rw [if_pos rfl,if_pos hq]
              exact wpS_bind (wpS_rev ok' fun st2 ok2=>wpS_pure ⟨⟨0,rfl⟩,ok2⟩)
            · rw [if_pos rfl,if_neg hq]
              exact wpS_pure ⟨⟨0,rfl⟩,ok'⟩
          | false =>
            dsimp only
            rw [if_neg Bool.false_ne_true]
            refine wpS_bind (wpS_ltP ok' h0 (by lia) (by lia) fun r=>?_)
            cases r with
            | true=>exact wpS_pure ⟨x,q,rfl,by lia,by lia,ok'⟩
            | false=>exact wpS_pure ⟨⟨q+1,rfl⟩,ok'⟩
        · rintro c st' ⟨⟨q,rfl⟩,ok'⟩
          exact ⟨_,q,rfl,by lia,by lia,ok'⟩
        · rintro c st' ⟨m,q,rfl,hm1,hm2,ok2⟩
          dsimp only
          by_cases hq:q>0
          · rw [if_pos hq]
            refine wpS_bind (wpS_rev ok2 fun st3 ok3=>?_)
            refine wpS_bind (wpS_rev ok3 fun stY okY=>?_)
            refine wpS_bind (wpS_mono (wpS_forRange (I:=fun x c st'=>c=(none,x)∧Ok a₀ p st') (Q:=fun c st'=>∃ n,c=(none,n)∧1≤n∧n≤nrem∧Ok a₀ p st') ?_ ?_ ⟨rfl,okY⟩) ?_)
            · rintro x c st' hx1 hx2 ⟨rfl,ok'⟩
              refine wpS_bind (wpS_ltP ok' h0 (by lia) (by lia) fun r=>?_)
              cases r with
              | true=>exact wpS_pure ⟨x,rfl,by lia,by lia,ok'⟩
              | false=>exact wpS_pure ⟨rfl,ok'⟩
            · rintro c st' ⟨rfl,ok'⟩
              exact ⟨_,rfl,by lia,by lia,ok'⟩
            · rintro c st' ⟨n,rfl,hn1,hn2,ok'⟩
              exact wpS_pure (h n _ ok' hn1 hn2)
          · rw [if_neg hq]
            refine wpS_bind (wpS_rev ok2 fun stY okY=>?_)
            refine wpS_bind (wpS_mono (wpS_forRange (I:=fun x c st'=>c=(none,x)∧Ok a₀ p st') (Q:=fun c st'=>∃ n,c=(none,n)∧1≤n∧n≤nrem∧Ok a₀ p st') ?_ ?_ ⟨rfl,okY⟩) ?_)
            · rintro x c st' hx1 hx2 ⟨rfl,ok'⟩
              refine wpS_bind (wpS_ltP ok' h0 (by lia) (by lia) fun r=>?_)
              cases r with
              | true=>exact wpS_pure ⟨x,rfl,by lia,by lia,ok'⟩
              | false=>exact wpS_pure ⟨rfl,ok'⟩
            · rintro c st' ⟨rfl,ok'⟩
              exact ⟨_,rfl,by lia,by lia,ok'⟩
            · rintro c st' ⟨n,rfl,hn1,hn2,ok'⟩
              exact wpS_pure (h n _ ok' hn1 hn2)
theorem wpS_bin {lo n ok:Nat} {Q:Bool→SortSt→Prop} (h0:IntKeys a₀) (hn:lo+n≤a₀.size) (hB:Ok a₀ p st) (h:∀ st',Ok a₀ p st'→Q true st'):wpS (model prog w) A E s (binarySort' lo n ok) Q st:=by
  rw [binarySort'_eq]
  refine wpS_bind (wpS_mono (wpS_forRange (I:=fun k c st'=>c=(none,())∧Ok a₀ p st') (Q:=fun c st'=>c=(none,())∧Ok a₀ p st') ?step (fun _ _ z=>z) ⟨rfl,hB⟩) ?post)
  case post =>
    rintro c st' ⟨rfl,ok'⟩
    exact wpS_pure (h _ ok')
  case step =>
    rintro k c st' hk1 hk2 ⟨rfl,ok'⟩
    dsimp only
    refine wpS_bind (wpS_mono (wpS_forRange (I:=fun _ c st2=>(∃ l r,c=(none,l,r)∧r≤k)∧Ok a₀ p st2) (Q:=fun c st2=>(∃ l r,c=(none,l,r)∧r≤k)∧Ok a₀ p st2) ?_ (fun _ _ z=>z) ⟨⟨0,k,rfl,Nat.le_refl _⟩,ok'⟩) ?_)
    · rintro x c st2 _ _ ⟨⟨l,r,rfl,hr⟩,ok2⟩
      dsimp only
      by_cases hlr:l≥r
      · rw [if_pos hlr]
        exact wpS_pure ⟨⟨l,r,rfl,hr⟩,ok2⟩
      · rw [if_neg hlr]
        refine wpS_bind (wpS_ltP ok2 h0 (by lia) (by lia) fun less=>?_)
        cases less with
        | true=>exact wpS_pure ⟨⟨l,(l+r) / 2,rfl,by lia⟩,ok2⟩
        | false=>exact wpS_pure ⟨⟨(l+r) / 2+1,r,rfl,hr⟩,ok2⟩
    · rintro c st2 ⟨⟨l,r,rfl,hr⟩,ok2⟩
      dsimp only
      exact wpS_bind (wpS_down ok2 fun st3 ok3=>wpS_pure ⟨rfl,ok3⟩)
end
end Srt
namespace Srt
open PySem PyProof.Rows
noncomputable def gallopP:Bool→Keyed→Array Keyed→Nat→Nat→Nat→StateT SortSt Sem (Option Nat):=sortPriv% PySem.Builtin.gallop
section
variable {prog:Program} {w:World} {A:Around} {E:Value→Shared→Prop} {s:Shared} {st:SortSt}
theorem wpS_beyond {left:Bool} {key:Keyed} {arr:Array Keyed} {i:Nat} {Q:Option Bool→SortSt→Prop} (hk:kindOf st=oneType') (h0:IntKeys arr) (hkey:IntK key) (hi:i<arr.size) (h:∀ r,Q (some r) st) :
    wpS (model prog w) A E s (elem' arr i>>=fun x=>if left=true then lt' x key else lt' key x>>=fun r=>pure (Option.map (fun x=>!x) r)) Q st:=by
  refine wpS_bind (wpS_elem hi ?_)
  cases left with
  | true=>exact wpS_lt hk (keys_at h0 hi) hkey h
  | false=>exact wpS_bind (wpS_lt hk hkey (keys_at h0 hi) fun r=>wpS_pure (h _))
theorem wpS_gallop {left:Bool} {key:Keyed} {arr:Array Keyed} {base n hint:Nat} {Q:Option Nat→SortSt→Prop} (hk:kindOf st=oneType') (h0:IntKeys arr) (hkey:IntK key) (hb:base+n≤arr.size) (hh:hint<n)
    (h:∀ k,k≤n→Q (some k) st):wpS (model prog w) A E s (gallopP left key arr base n hint) Q st:=by
  unfold gallopP
  show wpS _ _ _ _ (_>>=_) _ _
  dsimp only
  refine wpS_bind (wpS_beyond hk h0 hkey (by lia) fun right=>?_)
  cases right with
  | true =>
    dsimp only
    rw [if_pos rfl]
    refine wpS_bind (wpS_mono (wpS_forRange (I:=fun _ c st2=>(∃ l r,c=(none,l,r))∧st=st2) (Q:=fun c st2=>(∃ l r,c=(none,l,r))∧st=st2) ?_ (fun _ _ z=>z) ⟨⟨_,_,rfl⟩,rfl⟩) ?_)
    · rintro x c st2 _ _ ⟨⟨l,r,rfl⟩,rfl⟩
      dsimp only
      by_cases hlr:r≥n - hint
      · rw [if_pos hlr]
        exact wpS_pure ⟨⟨l,r,rfl⟩,rfl⟩
      · rw [if_neg hlr]
        refine wpS_bind (wpS_beyond hk h0 hkey (by lia) fun more=>?_)
        cases more with
        | true=>exact wpS_pure ⟨⟨_,_,rfl⟩,rfl⟩
        | false=>exact wpS_pure ⟨⟨_,_,rfl⟩,rfl⟩
    · rintro c st2 ⟨⟨l,r,rfl⟩,rfl⟩
      dsimp only
      refine wpS_bind (wpS_mono (wpS_forRange (I:=fun _ c st2=>(∃ l r,c=(none,l,r)∧r≤n)∧st=st2) (Q:=fun c st2=>(∃ l r,c=(none,l,r)∧r≤n)∧st=st2) ?_ (fun _ _ z=>z) ⟨⟨_,_,rfl,by lia⟩,rfl⟩) ?_)
      · rintro x c st2 _ _ ⟨⟨l,r,rfl,hr⟩,rfl⟩
        dsimp only
        by_cases hlr:l≥r
        · rw [if_pos hlr]
          exact wpS_pure ⟨⟨l,r,rfl,hr⟩,rfl⟩
        · rw [if_neg hlr]
          refine wpS_bind (wpS_beyond hk h0 hkey (by lia) fun more=>?_)
          cases more with
          | true=>exact wpS_pure ⟨⟨l+(r - l) / 2+1,r,rfl,hr⟩,rfl⟩
          | false=>exact wpS_pure ⟨⟨l,l+(r - l) / 2,rfl,by lia⟩,rfl⟩
      · rintro c st2 ⟨⟨l,r,rfl,hr⟩,rfl⟩
        exact wpS_pure (h _ hr)
  | false =>
    dsimp only
    rw [if_neg Bool.false_ne_true]
    refine wpS_bind (wpS_mono (wpS_forRange (I:=fun _ c st2=>(∃ l r,c=(none,l,r))∧st=st2) (Q:=fun c st2=>(∃ l r,c=(none,l,r))∧st=st2) ?_ (fun _ _ z=>z) ⟨⟨_,_,rfl⟩,rfl⟩) ?_)
    · rintro x c st2 _ _ ⟨⟨l,r,rfl⟩,rfl⟩
      dsimp only
      by_cases hlr:r≥hint+1
      · rw [if_pos hlr]
        exact wpS_pure ⟨⟨l,r,rfl⟩,rfl⟩
      · rw [if_neg hlr]
        refine wpS_bind (wpS_beyond hk h0 hkey (by lia) fun more=>?_)
        cases more with
        | true=>exact wpS_pure ⟨⟨_,_,rfl⟩,rfl⟩
        | false=>exact wpS_pure ⟨⟨_,_,rfl⟩,rfl⟩
    · rintro c st2 ⟨⟨l,r,rfl⟩,rfl⟩
      dsimp only
      refine wpS_bind (wpS_mono (wpS_forRange (I:=fun _ c st2=>(∃ l r,c=(none,l,r)∧r≤n)∧st=st2) (Q:=fun c st2=>(∃ l r,c=(none,l,r)∧r≤n)∧st=st2) ?_ (fun _ _ z=>z) ⟨⟨_,_,rfl,by lia⟩,rfl⟩) ?_)
      · rintro x c st2 _ _ ⟨⟨l,r,rfl,hr⟩,rfl⟩
        dsimp only
        by_cases hlr:l≥r
        · rw [if_pos hlr]
          exact wpS_pure ⟨⟨l,r,rfl,hr⟩,rfl⟩
        · rw [if_neg hlr]
          refine wpS_bind (wpS_beyond hk h0 hkey (by lia) fun more=>?_)
          cases more with
          | true=>exact wpS_pure ⟨⟨l+(r - l) / 2+1,r,rfl,hr⟩,rfl⟩
          | false=>exact wpS_pure ⟨⟨l,l+(r - l) / 2,rfl,by lia⟩,rfl⟩
      · rintro c st2 ⟨⟨l,r,rfl,hr⟩,rfl⟩
        exact wpS_pure (h _ hr)
end
end Srt
namespace Srt
open PySem PyProof.Rows
theorem addA {α:Type} {o A B X:List α} (h:o.Perm (A++B)):(o++X).Perm ((A++X)++B):=by
  refine (h.append_right X).trans ?_
  rw [List.append_assoc,List.append_assoc]
  exact List.perm_append_comm.append_left A
theorem addB {α:Type} {o A B X:List α} (h:o.Perm (A++B)):(o++X).Perm (A++(B++X)):=by
  rw [← List.append_assoc]
  exact h.append_right X
noncomputable abbrev Outs (a b:Array Keyed) (o:Array Keyed) (i j:Nat):Prop:=o.toList.Perm (a.toList.take i++b.toList.take j)
section
variable {a b o:Array Keyed} {i j k:Nat}
theorem ext_list (a:Array Keyed) (i k:Nat):(a.extract i (i+k)).toList=(a.toList.drop i).take k:=by
  rw [Array.toList_extract,List.extract_eq_take_drop,Nat.add_sub_cancel_left]
theorem ext_all (a:Array Keyed) (i:Nat):(a.extract i a.size).toList=a.toList.drop i:=by
  rw [Array.toList_extract,List.extract_eq_take_drop]
  exact List.take_of_length_le (by simp)
theorem Outs.pushA (h:Outs a b o i j) (hi:i<a.size):Outs a b (o.push a[i]) (i+1) j:=by
  unfold Outs at h⊢
  rw [Array.toList_push,List.take_add_one,show a.toList[i]?=some a[i] by simp [hi]]
  exact addA h
theorem Outs.pushB (h:Outs a b o i j) (hj:j<b.size):Outs a b (o.push b[j]) i (j+1):=by
  unfold Outs at h⊢
  rw [Array.toList_push,List.take_add_one,show b.toList[j]?=some b[j] by simp [hj]]
  exact addB h
theorem Outs.extA (h:Outs a b o i j) (k:Nat):Outs a b (o++a.extract i (i+k)) (i+k) j:=by
  unfold Outs at h⊢
  rw [Array.toList_append,ext_list,List.take_add]
  exact addA h
theorem Outs.extB (h:Outs a b o i j) (k:Nat):Outs a b (o++b.extract j (j+k)) i (j+k):=by
  unfold Outs at h⊢
  rw [Array.toList_append,ext_list,List.take_add]
  exact addB h
theorem Outs.done (h:Outs a b o i j):(o++a.extract i a.size++b.extract j b.size).toList.Perm (a.toList++b.toList):=by
  unfold Outs at h
  rw [Array.toList_append,Array.toList_append,ext_all,ext_all]
  have:=addB (X:=b.toList.drop j) (addA (X:=a.toList.drop i) h)
  rwa [List.take_append_drop,List.take_append_drop] at this
theorem Outs.last (h:Outs a b o i j):(o++b.extract j b.size++a.extract i a.size).toList.Perm (a.toList++b.toList):=by
  unfold Outs at h
  rw [Array.toList_append,Array.toList_append,ext_all,ext_all]
  have:=addA (X:=a.toList.drop i) (addB (X:=b.toList.drop j) h)
  rwa [List.take_append_drop,List.take_append_drop] at this
end
end Srt
namespace Srt
open PySem PyProof.Rows
noncomputable def setMinP:Nat→StateT SortSt Sem Unit:=sortPriv% PySem.Builtin.setMinGallop
noncomputable def mergeLoP:Array Keyed→Array Keyed→StateT SortSt Sem (Array Keyed):=sortPriv% PySem.Builtin.mergeLo
noncomputable abbrev Still (a₀:Array Keyed) (p:Array (Nat×Nat×Nat)) (x:Array Keyed) (st:SortSt):Prop:=Ok a₀ p st∧arrOf st=x
section
variable {prog:Program} {w:World} {A:Around} {E:Value→Shared→Prop} {s:Shared} {st:SortSt} {a₀ x₀:Array Keyed} {p:Array (Nat×Nat×Nat)}
theorem wpS_setMin {g:Nat} {Q:Unit→SortSt→Prop} (ok:Still a₀ p x₀ st) (h:∀ st',Still a₀ p x₀ st'→Q () st'):wpS (model prog w) A E s (setMinP g) Q st:=by
  unfold setMinP
  exact wpS_modify (h _ ⟨⟨ok.1.perm,ok.1.kind,ok.1.failed,ok.1.pend⟩,ok.2⟩)
noncomputable abbrev LoOn (a b:Array Keyed) (m:Nat) (o:Array Keyed) (i j:Nat):Prop:=Outs a b o i j∧i+1<a.size∧j<b.size∧m≤i+j
theorem nbeq {a b:Nat} (h:¬ a=b):¬ (a==b)=true:=fun z=>h (beq_iff_eq.mp z)
theorem wpS_beq {α:Type} {x y:Nat} {a b:StateT SortSt Sem α} {Q:α→SortSt→Prop} (h1:x=y→wpS (model prog w) A E s a Q st) (h2:¬ x=y→wpS (model prog w) A E s b Q st):wpS (model prog w) A E s (if (x==y)=true then a else b) Q st:=by
  by_cases h:x=y
  · rw [if_pos (beq_iff_eq.mpr h)];exact h1 h
  · rw [if_neg (nbeq h)];exact h2 h
theorem wpS_ite {α:Type} {c:Prop} [Decidable c] {a b:StateT SortSt Sem α} {Q:α→SortSt→Prop} (h1:c→wpS (model prog w) A E s a Q st) (h2:¬ c→wpS (model prog w) A E s b Q st):wpS (model prog w) A E s (if c then a else b) Q st:=by
  by_cases h:c
  · rw [if_pos h];exact h1 h
  · rw [if_neg h];exact h2 h
theorem via1 {T:Nat→Prop} {G:Prop} (key:∀ g',T g') (main:(∀ g',T g')→G):G:=main key
theorem via3 {T:Array Keyed→Nat→Nat→Prop} {G:Prop} (P:Array Keyed→Nat→Prop) (key:∀ o i k,P o i→T o i k) (main:(∀ o i k,P o i→T o i k)→G):G:=main key
theorem wpS_mergeLo {a b:Array Keyed} {Q:Array Keyed→SortSt→Prop} (ok:Still a₀ p x₀ st) (ha:IntKeys a) (hb:IntKeys b) (ha1:1≤a.size) (hb1:1≤b.size)
    (h:∀ o st',Still a₀ p x₀ st'→o.toList.Perm (a.toList++b.toList)→Q o st'):wpS (model prog w) A E s (mergeLoP a b) Q st:=by
  unfold mergeLoP
  show wpS _ _ _ _ (_>>=_) _ _
  refine wpS_bind (wpS_lift (wpAny_rule ⟨rfl,?_⟩))
  refine wpS_bind (wpS_elem (by lia) ?_)
  have o1:Outs a b #[b[0]] 0 1:=by
    have:Outs a b #[] 0 0:=by simp [Outs]
    exact this.pushB (by lia)
  refine wpS_beq (fun h1=>wpS_pure (h _ _ ok o1.done)) (fun h1=>?_)
  refine wpS_beq (fun h2=>wpS_pure (h _ _ ok o1.last)) (fun h2=>?_)
  refine wpS_bind (wpS_get ?_)
  refine wpS_bind (wpS_mono (wpS_forRange (I:=fun m c st'=>∃ o i j g,c=(none,o,i,j,g)∧LoOn a b m o i j∧Still a₀ p x₀ st')
    (Q:=fun c st'=>∃ r rest,c=(some r,rest)∧r.toList.Perm (a.toList++b.toList)∧Still a₀ p x₀ st') ?step ?fin ⟨_,_,_,_,rfl,⟨o1,by lia,by lia,by lia⟩,ok⟩) ?post)
  case fin =>
    rintro c st' ⟨o,i,j,g,rfl,⟨_,h3,h4,h5⟩,_⟩
    lia
  case post =>
    rintro c st' ⟨r,rest,rfl,hp,ok'⟩
    exact wpS_pure (h _ _ ok' hp)
  case step =>
    rintro m c st' _ hm ⟨o,i,j,g,rfl,on,ok'⟩
    refine wpS_bind (wpS_mono (wpS_forRange (I:=fun y c st2=>∃ o i j ac bc,c=(none,o,i,j,ac,bc)∧LoOn a b (m+y) o i j∧Still a₀ p x₀ st2)
      (Q:=fun c st2=>(∃ o i j ac bc,c=(none,o,i,j,ac,bc)∧LoOn a b (m+1) o i j∧Still a₀ p x₀ st2)∨∃ r rest,c=(some r,rest)∧r.toList.Perm (a.toList++b.toList)∧Still a₀ p x₀ st2) ?step1 ?fin1 ⟨_,_,_,_,_,rfl,on,ok'⟩) ?post1)
    case fin1 =>
      rintro c st2 ⟨o,i,j,ac,bc,rfl,⟨q1,q2,q3,q4⟩,ok2⟩
      exact .inl ⟨_,_,_,_,_,rfl,⟨q1,q2,q3,by lia⟩,ok2⟩
    case step1 =>
      rintro y c st2 _ hy ⟨o,i,j,ac,bc,rfl,⟨q1,q2,q3,q4⟩,ok2⟩
      dsimp only
      refine wpS_bind (wpS_elem (by lia) (wpS_bind (wpS_elem (by lia) (wpS_bind (wpS_lt ok2.1.kind (keys_at hb _) (keys_at ha _) fun r=>?_)))))
      cases r with
      | true =>
        dsimp only
        rw [if_pos rfl]
        refine wpS_bind (wpS_elem (by lia) ?_)
        refine wpS_beq (fun hz=>wpS_pure (.inr ⟨_,_,rfl,(q1.pushB (by lia)).done,ok2⟩)) (fun hz=>?_)
        split
        · exact wpS_pure (.inl ⟨_,_,_,_,_,rfl,⟨q1.pushB (by lia),by lia,by lia,by lia⟩,ok2⟩)
        · exact wpS_pure ⟨_,_,_,_,_,rfl,⟨q1.pushB (by lia),by lia,by lia,by lia⟩,ok2⟩
      | false =>
        dsimp only
        rw [if_neg Bool.false_ne_true]
        refine wpS_bind (wpS_elem (by lia) ?_)
        refine wpS_beq (fun hz=>wpS_pure (.inr ⟨_,_,rfl,(q1.pushA (by lia)).last,ok2⟩)) (fun hz=>?_)
        split
        · exact wpS_pure (.inl ⟨_,_,_,_,_,rfl,⟨q1.pushA (by lia),by lia,by lia,by lia⟩,ok2⟩)
        · exact wpS_pure ⟨_,_,_,_,_,rfl,⟨q1.pushA (by lia),by lia,by lia,by lia⟩,ok2⟩
    case post1 =>
      rintro c st2 (⟨o,i,j,ac,bc,rfl,on2,ok2⟩ | ⟨r,rest,rfl,hp,ok2⟩)
      · dsimp only
        refine wpS_bind (wpS_lift (wpAny_rule ⟨rfl,?_⟩))
        refine wpS_bind (wpS_mono (wpS_forRange (I:=fun _ c st3=>∃ o i j g ac bc,c=(none,o,i,j,g,ac,bc)∧LoOn a b (m+1) o i j∧Still a₀ p x₀ st3)
          (Q:=fun c st3=>(∃ o i j g ac bc,c=(none,o,i,j,g,ac,bc)∧LoOn a b (m+1) o i j∧Still a₀ p x₀ st3)∨∃ r rest,c=(some r,rest)∧r.toList.Perm (a.toList++b.toList)∧Still a₀ p x₀ st3) ?step2 (fun _ _ z=>.inl z) ⟨_,_,_,_,_,_,rfl,on2,ok2⟩) ?post2)
        case post2 =>
          rintro c st3 (⟨o,i,j,g,ac,bc,rfl,on3,ok3⟩ | ⟨r,⟨o,i,j,g,ac,bc⟩,rfl,hp,ok3⟩)
          · dsimp only
            exact wpS_bind (wpS_setMin ok3 fun st4 ok4=>wpS_pure ⟨_,_,_,_,rfl,on3,ok4⟩)
          · exact wpS_pure ⟨_,_,rfl,hp,ok3⟩
        case step2 =>
          rintro y c st3 _ _ ⟨o,i,j,g,ac,bc,rfl,⟨q1,q2,q3,q4⟩,ok3⟩
          dsimp only
          refine via1 (T:=?T1) ?key1 ?main1
          case main1 =>
            intro key
            refine wpS_ite (fun hg=>?_) (fun hg=>?_)
            · generalize g - 1=g'
              exact key g'
            · with_reducible exact key g
          case key1 =>
            intro g'
            refine wpS_bind (wpS_setMin ok3 fun st4 ok4=>?_)
            refine wpS_bind (wpS_elem (by lia) ?_)
            refine wpS_bind (wpS_gallop ok4.1.kind ha (keys_at hb _) (by lia) (by lia) fun k hk=>?_)
            refine wpS_ite (fun hk0=>?_) (fun hk0=>?_)
            · skip
              refine wpS_beq (fun hz=>wpS_pure (.inr ⟨_,_,rfl,(q1.extA k).last,ok4⟩)) (fun hz=>?_)
              refine wpS_beq (fun hz2=>wpS_pure (.inr ⟨_,_,rfl,(q1.extA k).done,ok4⟩)) (fun hz2=>?_)
              refine wpS_bind (wpS_elem (by lia) ?_)
              refine wpS_beq (fun hy=>wpS_pure (.inr ⟨_,_,rfl,(Outs.pushB (q1.extA k) (by lia)).done,ok4⟩)) (fun hy=>?_)
              refine wpS_bind (wpS_elem (by lia) ?_)
              refine wpS_bind (wpS_gallop ok4.1.kind hb (keys_at ha _) (by lia) (by lia) fun k1 hk1=>?_)
              refine wpS_ite (fun hk2=>?_) (fun hk2=>?_)
              · skip
                refine wpS_beq (fun hy2=>wpS_pure (.inr ⟨_,_,rfl,((Outs.pushB (q1.extA k) (by lia)).extB k1).done,ok4⟩)) (fun hy2=>?_)
                refine wpS_bind (wpS_elem (by lia) ?_)
                split
                · exact wpS_pure (.inr ⟨_,_,rfl,(Outs.pushA ((Outs.pushB (q1.extA k) (by lia)).extB k1) (by lia)).last,ok4⟩)
                · split
                  · exact wpS_pure (.inl ⟨_,_,_,_,_,_,rfl,⟨Outs.pushA ((Outs.pushB (q1.extA k) (by lia)).extB k1) (by lia),by lia,by lia,by lia⟩,ok4⟩)
                  · exact wpS_pure ⟨_,_,_,_,_,_,rfl,⟨Outs.pushA ((Outs.pushB (q1.extA k) (by lia)).extB k1) (by lia),by lia,by lia,by lia⟩,ok4⟩
              · skip
                refine wpS_bind (wpS_elem (by lia) ?_)
                split
                · exact wpS_pure (.inr ⟨_,_,rfl,(Outs.pushA (Outs.pushB (q1.extA k) (by lia)) (by lia)).last,ok4⟩)
                · split
                  · exact wpS_pure (.inl ⟨_,_,_,_,_,_,rfl,⟨Outs.pushA (Outs.pushB (q1.extA k) (by lia)) (by lia),by lia,by lia,by lia⟩,ok4⟩)
                  · exact wpS_pure ⟨_,_,_,_,_,_,rfl,⟨Outs.pushA (Outs.pushB (q1.extA k) (by lia)) (by lia),by lia,by lia,by lia⟩,ok4⟩
            · skip
              refine wpS_bind (wpS_elem (by lia) ?_)
              refine wpS_beq (fun hy=>wpS_pure (.inr ⟨_,_,rfl,(Outs.pushB q1 (by lia)).done,ok4⟩)) (fun hy=>?_)
              refine wpS_bind (wpS_elem (by lia) ?_)
              refine wpS_bind (wpS_gallop ok4.1.kind hb (keys_at ha _) (by lia) (by lia) fun k1 hk1=>?_)
              refine wpS_ite (fun hk2=>?_) (fun hk2=>?_)
              · skip
                refine wpS_beq (fun hy2=>wpS_pure (.inr ⟨_,_,rfl,((Outs.pushB q1 (by lia)).extB k1).done,ok4⟩)) (fun hy2=>?_)
                refine wpS_bind (wpS_elem (by lia) ?_)
                split
                · exact wpS_pure (.inr ⟨_,_,rfl,(Outs.pushA ((Outs.pushB q1 (by lia)).extB k1) (by lia)).last,ok4⟩)
                · split
                  · exact wpS_pure (.inl ⟨_,_,_,_,_,_,rfl,⟨Outs.pushA ((Outs.pushB q1 (by lia)).extB k1) (by lia),by lia,by lia,by lia⟩,ok4⟩)
                  · exact wpS_pure ⟨_,_,_,_,_,_,rfl,⟨Outs.pushA ((Outs.pushB q1 (by lia)).extB k1) (by lia),by lia,by lia,by lia⟩,ok4⟩
              · skip
                refine wpS_bind (wpS_elem (by lia) ?_)
                split
                · exact wpS_pure (.inr ⟨_,_,rfl,(Outs.pushA (Outs.pushB q1 (by lia)) (by lia)).last,ok4⟩)
                · split
                  · exact wpS_pure (.inl ⟨_,_,_,_,_,_,rfl,⟨Outs.pushA (Outs.pushB q1 (by lia)) (by lia),by lia,by lia,by lia⟩,ok4⟩)
                  · exact wpS_pure ⟨_,_,_,_,_,_,rfl,⟨Outs.pushA (Outs.pushB q1 (by lia)) (by lia),by lia,by lia,by lia⟩,ok4⟩
      · obtain ⟨o,i,j,ac,bc⟩:=rest
        exact wpS_pure ⟨_,_,rfl,hp,ok2⟩
end
end Srt
namespace Srt
open PySem PyProof.Rows
noncomputable def mergeHiP:Array Keyed→Array Keyed→StateT SortSt Sem (Array Keyed):=sortPriv% PySem.Builtin.mergeHi
noncomputable abbrev Behind (a b:Array Keyed) (o:Array Keyed) (i j:Nat):Prop:=o.toList.Perm (a.toList.drop i++b.toList.drop j)
section
variable {a b o:Array Keyed} {i j k:Nat}
theorem putA {α:Type} {o A B X:List α} (h:o.Perm (A++B)):(o++X).Perm ((X++A)++B):=by
  refine List.perm_append_comm.trans ?_
  rw [List.append_assoc]
  exact h.append_left X
theorem putB {α:Type} {o A B X:List α} (h:o.Perm (A++B)):(o++X).Perm (A++(X++B)):=by
  refine (h.append_right X).trans ?_
  rw [List.append_assoc]
  exact List.perm_append_comm.append_left A
theorem ext_mid (a:Array Keyed) {k i:Nat} (h:k≤i):a.toList.drop k=(a.extract k i).toList++a.toList.drop i:=by
  obtain ⟨d,rfl⟩:∃ d,i=k+d:=⟨i - k,by lia⟩
  rw [ext_list,← List.drop_drop,List.take_append_drop]
theorem ext_low (a:Array Keyed) (i:Nat):(a.extract 0 i).toList=a.toList.take i:=by
  have:=ext_list a 0 i
  rwa [Nat.zero_add] at this
theorem drop_less (a:Array Keyed) (h0:1≤i) (hi:i≤a.size):a.toList.drop (i - 1)=a[i - 1]::a.toList.drop i:=by
  rw [List.drop_eq_getElem_cons (by simp;omega),show i - 1+1=i by lia]
  simp
theorem Behind.pushA (h:Behind a b o i j) (h0:1≤i) (hi:i≤a.size):Behind a b (o.push a[i - 1]) (i - 1) j:=by
  unfold Behind at h⊢
  rw [Array.toList_push,drop_less a h0 hi]
  exact putA (X:=[a[i - 1]]) h
theorem Behind.pushB (h:Behind a b o i j) (h0:1≤j) (hj:j≤b.size):Behind a b (o.push b[j - 1]) i (j - 1):=by
  unfold Behind at h⊢
  rw [Array.toList_push,drop_less b h0 hj]
  exact putB (X:=[b[j - 1]]) h
theorem Behind.extA (h:Behind a b o i j) (hk:k≤i):Behind a b (o++(a.extract k i).reverse) k j:=by
  unfold Behind at h⊢
  rw [Array.toList_append,Array.toList_reverse,ext_mid a hk]
  exact ((List.reverse_perm _).append_left _).trans (putA h)
theorem Behind.extB (h:Behind a b o i j) (hk:k≤j):Behind a b (o++(b.extract k j).reverse) i k:=by
  unfold Behind at h⊢
  rw [Array.toList_append,Array.toList_reverse,ext_mid b hk]
  exact ((List.reverse_perm _).append_left _).trans (putB h)
theorem all_of {α:Type} (A B:List α) {o:List α} (h:o.Perm (A.drop i++B.drop j)):(A.take i++B.take j++o).Perm (A++B):=by
  refine (h.append_left _).trans ?_
  have:(A.take i++B.take j++(A.drop i++B.drop j)).Perm ((A.take i++A.drop i)++(B.take j++B.drop j)):=by
    rw [List.append_assoc,List.append_assoc]
    refine List.Perm.append_left _ ?_
    rw [← List.append_assoc,← List.append_assoc]
    exact List.perm_append_comm.append_right _
  rwa [List.take_append_drop,List.take_append_drop] at this
theorem Behind.done (h:Behind a b o i j):(a.extract 0 i++b.extract 0 j++o.reverse).toList.Perm (a.toList++b.toList):=by
  unfold Behind at h
  rw [Array.toList_append,Array.toList_append,ext_low,ext_low,Array.toList_reverse]
  exact all_of _ _ ((List.reverse_perm _).trans h)
theorem Behind.first (h:Behind a b o i j):(b.extract 0 j++a.extract 0 i++o.reverse).toList.Perm (a.toList++b.toList):=by
  unfold Behind at h
  rw [Array.toList_append,Array.toList_append,ext_low,ext_low,Array.toList_reverse]
  exact (List.perm_append_comm.append_right _).trans (all_of _ _ ((List.reverse_perm _).trans h))
end
section
variable {prog:Program} {w:World} {A:Around} {E:Value→Shared→Prop} {s:Shared} {st:SortSt} {a₀ x₀:Array Keyed} {p:Array (Nat×Nat×Nat)}
noncomputable abbrev HiOn (a b:Array Keyed) (m:Nat) (o:Array Keyed) (i j:Nat):Prop:=Behind a b o i j∧(1≤i∧i≤a.size)∧(2≤j∧j≤b.size)∧m+i+j≤a.size+b.size
theorem wpS_mergeHi {a b:Array Keyed} {Q:Array Keyed→SortSt→Prop} (ok:Still a₀ p x₀ st) (ha:IntKeys a) (hb:IntKeys b) (ha1:1≤a.size) (hb1:1≤b.size)
    (h:∀ o st',Still a₀ p x₀ st'→o.toList.Perm (a.toList++b.toList)→Q o st'):wpS (model prog w) A E s (mergeHiP a b) Q st:=by
  unfold mergeHiP
  show wpS _ _ _ _ (_>>=_) _ _
  refine wpS_bind (wpS_lift (wpAny_rule ⟨rfl,?_⟩))
  refine wpS_bind (wpS_elem (by lia) ?_)
  have o1:Behind a b #[a[a.size - 1]] (a.size - 1) b.size:=by
    have:Behind a b #[] a.size b.size:=by simp [Behind]
    exact this.pushA (by lia) (by lia)
  refine wpS_beq (fun h1=>wpS_pure (h _ _ ok o1.done)) (fun h1=>?_)
  refine wpS_beq (fun h2=>wpS_pure (h _ _ ok o1.first)) (fun h2=>?_)
  refine wpS_bind (wpS_get ?_)
  refine wpS_bind (wpS_mono (wpS_forRange (I:=fun m c st'=>∃ i j o g,c=(none,i,j,o,g)∧HiOn a b m o i j∧Still a₀ p x₀ st')
    (Q:=fun c st'=>∃ r rest,c=(some r,rest)∧r.toList.Perm (a.toList++b.toList)∧Still a₀ p x₀ st') ?step ?fin ⟨_,_,_,_,rfl,⟨o1,by lia,by lia,by lia⟩,ok⟩) ?post)
  case fin =>
    rintro c st' ⟨i,j,o,g,rfl,⟨_,h3,h4,h5⟩,_⟩
    omega
  case post =>
    rintro c st' ⟨r,rest,rfl,hp,ok'⟩
    exact wpS_pure (h _ _ ok' hp)
  case step =>
    rintro m c st' _ hm ⟨i,j,o,g,rfl,on,ok'⟩
    refine wpS_bind (wpS_mono (wpS_forRange (I:=fun y c st2=>∃ i j o ac bc,c=(none,i,j,o,ac,bc)∧HiOn a b (m+y) o i j∧Still a₀ p x₀ st2)
      (Q:=fun c st2=>(∃ i j o ac bc,c=(none,i,j,o,ac,bc)∧HiOn a b (m+1) o i j∧Still a₀ p x₀ st2)∨∃ r rest,c=(some r,rest)∧r.toList.Perm (a.toList++b.toList)∧Still a₀ p x₀ st2) ?step1 ?fin1 ⟨_,_,_,_,_,rfl,on,ok'⟩) ?post1)
    case fin1 =>
      rintro c st2 ⟨i,j,o,ac,bc,rfl,⟨q1,q2,q3,q4⟩,ok2⟩
      exact .inl ⟨_,_,_,_,_,rfl,⟨q1,q2,q3,by lia⟩,ok2⟩
    case step1 =>
      rintro y c st2 _ hy ⟨i,j,o,ac,bc,rfl,⟨q1,q2,q3,q4⟩,ok2⟩
      dsimp only
      refine wpS_bind (wpS_elem (by lia) (wpS_bind (wpS_elem (by lia) (wpS_bind (wpS_lt ok2.1.kind (keys_at hb _) (keys_at ha _) fun r=>?_)))))
      cases r with
      | true =>
        dsimp only
        rw [if_pos rfl]
        refine wpS_bind (wpS_elem (by lia) ?_)
        refine wpS_beq (fun hz=>wpS_pure (.inr ⟨_,_,rfl,(q1.pushA (by lia) (by lia)).done,ok2⟩)) (fun hz=>?_)
        split
        · exact wpS_pure (.inl ⟨_,_,_,_,_,rfl,⟨q1.pushA (by lia) (by lia),by lia,by lia,by lia⟩,ok2⟩)
        · exact wpS_pure ⟨_,_,_,_,_,rfl,⟨q1.pushA (by lia) (by lia),by lia,by lia,by lia⟩,ok2⟩
      | false =>
        dsimp only
        rw [if_neg Bool.false_ne_true]
        refine wpS_bind (wpS_elem (by lia) ?_)
        refine wpS_beq (fun hz=>wpS_pure (.inr ⟨_,_,rfl,(q1.pushB (by lia) (by lia)).first,ok2⟩)) (fun hz=>?_)
        split
        · exact wpS_pure (.inl ⟨_,_,_,_,_,rfl,⟨q1.pushB (by lia) (by lia),by lia,by lia,by lia⟩,ok2⟩)
        · exact wpS_pure ⟨_,_,_,_,_,rfl,⟨q1.pushB (by lia) (by lia),by lia,by lia,by lia⟩,ok2⟩
    case post1 =>
      rintro c st2 (⟨i,j,o,ac,bc,rfl,on2,ok2⟩ | ⟨r,rest,rfl,hp,ok2⟩)
      · dsimp only
        refine wpS_bind (wpS_lift (wpAny_rule ⟨rfl,?_⟩))
        refine wpS_bind (wpS_mono (wpS_forRange (I:=fun _ c st3=>∃ i j o g ac bc,c=(none,i,j,o,g,ac,bc)∧HiOn a b (m+1) o i j∧Still a₀ p x₀ st3)
          (Q:=fun c st3=>(∃ i j o g ac bc,c=(none,i,j,o,g,ac,bc)∧HiOn a b (m+1) o i j∧Still a₀ p x₀ st3)∨∃ r rest,c=(some r,rest)∧r.toList.Perm (a.toList++b.toList)∧Still a₀ p x₀ st3) ?step2 (fun _ _ z=>.inl z) ⟨_,_,_,_,_,_,rfl,on2,ok2⟩) ?post2)
        case post2 =>
          rintro c st3 (⟨i,j,o,g,ac,bc,rfl,on3,ok3⟩ | ⟨r,⟨i,j,o,g,ac,bc⟩,rfl,hp,ok3⟩)
          · dsimp only
            exact wpS_bind (wpS_setMin ok3 fun st4 ok4=>wpS_pure ⟨_,_,_,_,rfl,on3,ok4⟩)
          · exact wpS_pure ⟨_,_,rfl,hp,ok3⟩
        case step2 =>
          rintro y c st3 _ _ ⟨i,j,o,g,ac,bc,rfl,⟨q1,q2,q3,q4⟩,ok3⟩
          dsimp only
          refine via1 (T:=?T1) ?key1 ?main1
          case main1 =>
            intro key
            refine wpS_ite (fun hg=>?_) (fun hg=>?_)
            · generalize g - 1=g'
              exact key g'
            · with_reducible exact key g
          case key1 =>
            intro g'
            refine wpS_bind (wpS_setMin ok3 fun st4 ok4=>?_)
            refine wpS_bind (wpS_elem (by lia) ?_)
            refine wpS_bind (wpS_gallop ok4.1.kind ha (keys_at hb _) (by lia) (by lia) fun k hk=>?_)
            refine via3 (T:=?T2) (fun o2 i2=>Behind a b o2 i2 j∧1≤i2∧i2≤a.size∧m+1+i2+j≤a.size+b.size) ?key2 ?main2
            case main2 =>
              intro key
              refine wpS_ite (fun hk0=>?_) (fun hk0=>?_)
              · skip
                have x1:Behind a b (o++(a.extract k i).reverse) k j:=Behind.extA (k:=k) q1 (by lia)
                refine wpS_beq (fun hz=>wpS_pure (.inr ⟨_,_,rfl,x1.done,ok4⟩)) (fun hz=>?_)
                have pk:1≤k∧k≤a.size∧m+1+k+j≤a.size+b.size:=by lia
                clear hz hk0
                generalize o++(a.extract k i).reverse=o2 at x1⊢
                generalize i - k=ka
                generalize k=i2 at x1 pk⊢
                exact key o2 i2 ka ⟨x1,pk⟩
              · with_reducible exact key o i (i - k) ⟨q1,q2.1,q2.2,q4⟩
            case key2 =>
              rintro o2 i2 ka ⟨r1,r2,hi2,hmm⟩
              clear q1 q2 q4 hk
              refine wpS_bind (wpS_elem (by lia) ?_)
              have y1:=r1.pushB (by lia) q3.2
              refine wpS_beq (fun hy=>wpS_pure (.inr ⟨_,_,rfl,y1.first,ok4⟩)) (fun hy=>?_)
              have hj2:2≤j - 1∧j - 1≤b.size∧m+1+i2+(j - 1)≤a.size+b.size:=by lia
              generalize o2.push b[j - 1]=o3 at y1⊢
              clear r1 hy hmm q3
              generalize j - 1=j2 at y1 hj2⊢
              refine wpS_bind (wpS_elem (by lia) ?_)
              refine wpS_bind (wpS_gallop ok4.1.kind hb (keys_at ha _) (by lia) (by lia) fun k1 hk1=>?_)
              refine via3 (T:=?T3) (fun o5 j5=>Behind a b o5 i2 j5∧2≤j5∧j5≤b.size∧m+1+i2+j5≤a.size+b.size) ?key3 ?main3
              case main3 =>
                intro key
                refine wpS_ite (fun hk2=>?_) (fun hk2=>?_)
                · skip
                  have z1:=Behind.extB (k:=k1) y1 (by lia)
                  refine wpS_beq (fun hy2=>wpS_pure (.inr ⟨_,_,rfl,z1.first,ok4⟩)) (fun hy2=>?_)
                  refine wpS_beq (fun hy3=>wpS_pure (.inr ⟨_,_,rfl,z1.done,ok4⟩)) (fun hy3=>?_)
                  have pt:2≤k1∧k1≤b.size∧m+1+i2+k1≤a.size+b.size:=by lia
                  clear hy2 hy3 hk2
                  generalize o3++(b.extract k1 j2).reverse=o5 at z1⊢
                  generalize j2 - k1=kb
                  generalize k1=j5 at z1 pt⊢
                  exact key o5 j5 kb ⟨z1,pt⟩
                · with_reducible exact key o3 j2 (j2 - k1) ⟨y1,hj2⟩
              case key3 =>
                rintro o5 j5 kb ⟨t1,t2,t3,t4⟩
                refine wpS_bind (wpS_elem (by lia) ?_)
                have u1:=t1.pushA r2 hi2
                refine wpS_beq (fun hz=>wpS_pure (.inr ⟨_,_,rfl,u1.done,ok4⟩)) (fun hz=>?_)
                have on5:HiOn a b (m+1) (o5.push a[i2 - 1]) (i2 - 1) j5:=⟨u1,⟨by lia,by lia⟩,⟨t2,t3⟩,by lia⟩
                split
                · exact wpS_pure (.inl ⟨_,_,_,_,_,_,rfl,on5,ok4⟩)
                · exact wpS_pure ⟨_,_,_,_,_,_,rfl,on5,ok4⟩
      · obtain ⟨i,j,o,ac,bc⟩:=rest
        exact wpS_pure ⟨_,_,rfl,hp,ok2⟩
end
end Srt
namespace Srt
open PySem PyProof.Rows
noncomputable def Cov:List (Nat×Nat×Nat)→Nat→Nat→Prop
  | [],s,e=>s=e
  | q::r,s,e=>q.1=s∧1≤q.2.1∧Cov r (s+q.2.1) e
theorem Cov.le:∀ {l:List (Nat×Nat×Nat)} {s e:Nat},Cov l s e→s≤e
  | [],_,_,h=>by unfold Cov at h;lia
  | q::r,s,e,h=>by
    obtain ⟨h1,h2,h3⟩:=h
    have:=h3.le
    lia
theorem Cov.snoc:∀ {l:List (Nat×Nat×Nat)} {s e n g:Nat},Cov l s e→1≤n→Cov (l++[(e,n,g)]) s (e+n)
  | [],_,_,_,_,h,hn=>by unfold Cov at h;subst h;exact ⟨rfl,hn,rfl⟩
  | q::r,s,e,n,g,h,hn=>⟨h.1,h.2.1,h.2.2.snoc hn⟩
theorem Cov.two:∀ {l:List (Nat×Nat×Nat)} {s e i:Nat},Cov l s e→i+1<l.length→∃ a n g m g',l[i]?=some (a,n,g)∧l[i+1]?=some (a+n,m,g')∧1≤n∧1≤m∧a+n+m≤e∧
    Cov ((l.set i (a,n+m,g)).eraseIdx (i+1)) s e
  | [],_,_,_,_,h=>by simp at h
  | [q],_,_,i,_,h=>by simp at h
  | q::q'::r,s,e,0,h,_=>by
    obtain ⟨h1,h2,h3,h4,h5⟩:=h
    have:=h5.le
    obtain ⟨a,n,g⟩:=q
    obtain ⟨b,m,g'⟩:=q'
    simp only at h1 h2 h3 h4 h5 this
    subst h1 h3
    refine ⟨_,_,_,_,_,rfl,rfl,h2,h4,by lia,rfl,by simp only;lia,?_⟩
    simp only
    rw [← Nat.add_assoc]
    exact h5
  | q::q'::r,s,e,i+1,h,hi=>by
    obtain ⟨a,n,g,m,g',e1,e2,h1,h2,h3,h4⟩:=h.2.2.two (i:=i) (by simp at hi⊢;lia)
    exact ⟨a,n,g,m,g',by simpa using e1,by simpa using e2,h1,h2,h3,by simpa using ⟨h.1,h.2.1,h4⟩⟩
theorem Cov.mod:∀ {l:List (Nat×Nat×Nat)} {s e i g:Nat},Cov l s e→Cov (l.modify i fun q=>(q.1,q.2.1,g)) s e
  | [],_,_,i,_,h=>by cases i <;> simpa using h
  | q::r,s,e,0,g,h=>by simpa [Cov] using h
  | q::r,s,e,i+1,g,h=>by
    have:=h.2.2.mod (i:=i) (g:=g)
    simpa using ⟨h.1,h.2.1,this⟩
theorem wrote:∀ (l:List Keyed) (x:Array Keyed) (d k:Nat),d+k+l.length≤x.size→
    ((l.zipIdx k).foldl (fun (y:Array Keyed) (q:Keyed×Nat)=>y.setIfInBounds (d+q.2) q.1) x).toList=x.toList.take (d+k)++l++x.toList.drop (d+k+l.length)
  | [],x,d,k,h=>by simp
  | q::l,x,d,k,h=>by
    simp only [List.length_cons] at h
    rw [List.zipIdx_cons,List.foldl_cons]
    have z:x.size=(x.setIfInBounds (d+k) q).size:=by simp
    have ih:=wrote l (x.setIfInBounds (d+k) q) d (k+1) (by rw [← z];lia)
    rw [ih,Array.toList_setIfInBounds,List.drop_set_of_lt (by lia),show d+(k+1)=d+k+1 by lia,List.take_add_one,List.getElem?_set_self (by simp;lia)]
    rw [List.take_set,List.set_eq_of_length_le (by rw [List.length_take];lia)]
    simp only [List.length_cons,Option.toList_some,List.append_assoc,List.cons_append,List.nil_append]
    congr 4
    lia
theorem wrote_perm {x o:Array Keyed} {i k:Nat} (hk:i+k≤x.size) (h:o.toList.Perm ((x.toList.drop i).take k)) :
    (o.toList.zipIdx.foldl (fun (y:Array Keyed) (q:Keyed×Nat)=>y.setIfInBounds (i+q.2) q.1) x).Perm x:=by
  have hl:o.toList.length=k:=by rw [h.length_eq];simp;lia
  rw [Array.perm_iff_toList_perm,wrote _ _ _ _ (by lia)]
  have e:x.toList=x.toList.take i++((x.toList.drop i).take k++x.toList.drop (i+k)):=by rw [← List.drop_drop,List.take_append_drop,List.take_append_drop]
  conv=>rhs;rw [e]
  rw [Nat.add_zero,hl,List.append_assoc]
  exact (h.append_right _).append_left _
section
variable {prog:Program} {w:World} {A:Around} {E:Value→Shared→Prop} {s:Shared} {st:SortSt} {a₀ x₀:Array Keyed} {p:Array (Nat×Nat×Nat)}
theorem wpS_set {σ:Type} {M:Model} {x:σ} {Q:PUnit→σ→Prop} {st:σ} (h:Q ⟨⟩ x):wpS M A E s (set x:StateT σ Sem PUnit) Q st:=by
  unfold wpS
  rw [StateT.run_set]
  exact wpAny_pure ⟨rfl,h⟩
theorem keys_ext {x:Array Keyed} (h:IntKeys x) (i k:Nat):IntKeys (x.extract i (i+k)):=fun q hq=>by
  rw [ext_list] at hq
  exact h q (List.mem_of_mem_drop (List.mem_of_mem_take hq))
theorem wpS_mergeAt {i e:Nat} {Q:Bool→SortSt→Prop} (h0:IntKeys a₀) (ok:Ok a₀ p st) (hc:Cov p.toList 0 e) (he:e≤a₀.size) (hi:i+1<p.size)
    (h:∀ p' st',Ok a₀ p' st'→Cov p'.toList 0 e→p'.size+1=p.size→Q true st'):wpS (model prog w) A E s (mergeAt' i) Q st:=by
  obtain ⟨sa,na,g,nb,g',e1,e2,h1,h2,h3,h4⟩:=hc.two (i:=i) (by simpa using hi)
  have hsz:=ok.size
  have hks:=ok.keys h0
  have p1:(pendingOf st)[i]?=some (sa,na,g):=by rw [ok.pend];simpa using e1
  have p2:(pendingOf st)[i+1]?=some (sa+na,nb,g'):=by rw [ok.pend];simpa using e2
  unfold mergeAt'
  show wpS _ _ _ _ (_>>=_) _ _
  refine wpS_bind (wpS_get ?_)
  rw [p1,p2]
  dsimp only
  refine wpS_bind (wpS_set ?_)
  have ok1:Ok a₀ (((pendingOf st).setIfInBounds i (sa,na+nb,g)).eraseIdxIfInBounds (i+1)) (SortSt.mk' (kindOf st) (arrOf st) (((pendingOf st).setIfInBounds i (sa,na+nb,g)).eraseIdxIfInBounds (i+1)) (gallopOf st) (failedOf st)) :=
    ⟨ok.perm,ok.kind,ok.failed,rfl⟩
  have z1:(((pendingOf st).setIfInBounds i (sa,na+nb,g)).eraseIdxIfInBounds (i+1)).toList=(p.toList.set i (sa,na+nb,g)).eraseIdx (i+1):=by
    rw [ok.pend,Array.eraseIdxIfInBounds,dif_pos (by simpa using hi)]
    simp
  have c1:Cov (((pendingOf st).setIfInBounds i (sa,na+nb,g)).eraseIdxIfInBounds (i+1)).toList 0 e:=by rw [z1];exact h4
  have n1:(((pendingOf st).setIfInBounds i (sa,na+nb,g)).eraseIdxIfInBounds (i+1)).size+1=p.size:=by
    have:=congrArg List.length z1
    rw [List.length_eraseIdx_of_lt (by simpa using hi),List.length_set] at this
    simp only [Array.length_toList] at this
    lia
  refine wpS_bind (wpS_elem (by show _<(arrOf st).size;lia) ?_)
  refine wpS_bind (wpS_gallop ok1.kind hks (keys_at hks _) (by show _≤(arrOf st).size;lia) (by lia) fun k hk=>?_)
  dsimp only
  by_cases hz:na - k=0
  · rw [if_pos (by simpa using hz)]
    exact wpS_pure (h _ _ ok1 c1 n1)
  rw [if_neg (by simpa using hz)]
  refine wpS_bind (wpS_elem (by show _<(arrOf st).size;lia) ?_)
  refine wpS_bind (wpS_gallop ok1.kind hks (keys_at hks _) (by show _≤(arrOf st).size;lia) (by lia) fun m hm=>?_)
  dsimp only
  by_cases hz2:m=0
  · rw [if_pos (by simpa using hz2)]
    exact wpS_pure (h _ _ ok1 c1 n1)
  rw [if_neg (by simpa using hz2)]
  have ex:(arrOf st).extract (sa+k) (sa+na)=(arrOf st).extract (sa+k) (sa+k+(na - k)):=by congr 1;lia
  have kx:IntKeys ((arrOf st).extract (sa+k) (sa+na)):=by rw [ex];exact keys_ext hks _ _
  have ky:IntKeys ((arrOf st).extract (sa+na) (sa+na+m)):=keys_ext hks _ _
  have xy:((arrOf st).extract (sa+k) (sa+na)).toList++((arrOf st).extract (sa+na) (sa+na+m)).toList=((arrOf st).toList.drop (sa+k)).take (na - k+m):=by
    rw [ex,ext_list,ext_list,List.take_add,List.drop_drop]
    congr 3
    lia
  have fin:∀ (o:Array Keyed) (st':SortSt),Still a₀ (((pendingOf st).setIfInBounds i (sa,na+nb,g)).eraseIdxIfInBounds (i+1)) (arrOf st) st'→o.toList.Perm (((arrOf st).extract (sa+k) (sa+na)).toList++((arrOf st).extract (sa+na) (sa+na+m)).toList)→
      Ok a₀ (((pendingOf st).setIfInBounds i (sa,na+nb,g)).eraseIdxIfInBounds (i+1)) (setArr st' (o.toList.zipIdx.foldl (fun (y:Array Keyed) (q:Keyed×Nat)=>y.setIfInBounds (sa+k+q.2) q.1) (arrOf st'))):=fun o st' ok2 hp=>by
    refine ok2.1.set ?_
    rw [xy] at hp
    rw [ok2.2]
    exact wrote_perm (by lia) hp
  have sx:1≤((arrOf st).extract (sa+k) (sa+na)).size:=by rw [Array.size_extract];lia
  have sy:1≤((arrOf st).extract (sa+na) (sa+na+m)).size:=by rw [Array.size_extract];lia
  by_cases hle:na - k≤m
  · rw [if_pos hle]
    refine wpS_bind (wpS_mergeLo ⟨ok1,rfl⟩ kx ky sx sy fun o st' ok2 hp=>?_)
    refine wpS_bind (wpS_modify (wpS_bind (wpS_get (wpS_pure ?_))))
    have ok3:=fin o st' ok2 hp
    have e3:=ok3.failed
    have:=h _ _ ok3 c1 n1
    rw [show (failedOf st').isNone=true by rw [ok2.1.failed];rfl]
    exact this
  · rw [if_neg hle]
    refine wpS_bind (wpS_mergeHi ⟨ok1,rfl⟩ kx ky sx sy fun o st' ok2 hp=>?_)
    refine wpS_bind (wpS_modify (wpS_bind (wpS_get (wpS_pure ?_))))
    have ok3:=fin o st' ok2 hp
    have:=h _ _ ok3 c1 n1
    rw [show (failedOf st').isNone=true by rw [ok2.1.failed];rfl]
    exact this
end
end Srt
namespace Srt
open PySem PyProof.Rows
section
variable {prog:Program} {w:World} {A:Around} {E:Value→Shared→Prop} {s:Shared} {st:SortSt} {a₀ x₀:Array Keyed} {p:Array (Nat×Nat×Nat)}
theorem Ok.setP (h:Ok a₀ p st) (p':Array (Nat×Nat×Nat)):Ok a₀ p' (setPending st p'):=⟨h.perm,h.kind,h.failed,rfl⟩
theorem wpS_runs {Q:Unit→SortSt→Prop} (h0:IntKeys a₀) (ok:Ok a₀ #[] st) (h:∀ st',(arrOf st').Perm a₀→failedOf st'=none→Q () st'):wpS (model prog w) A E s sortRuns' Q st:=by
  rw [sortRuns'_eq]
  refine wpS_bind (wpS_get ?_)
  dsimp only
  simp only [ok.size]
  refine wpS_bind (wpS_mono (wpS_forRange (I:=fun _ c st'=>∃ lo p,c=(none,lo)∧Ok a₀ p st'∧Cov p.toList 0 lo∧lo≤a₀.size) (Q:=fun c st'=>∃ lo p,c=(none,lo)∧Ok a₀ p st'∧Cov p.toList 0 lo∧lo≤a₀.size) ?step (fun _ _ z=>z) ⟨0,#[],rfl,ok,rfl,by omega⟩) ?post)
  case step =>
    rintro x c st' _ hx ⟨lo,p,rfl,ok',hc,hlo⟩
    dsimp only
    by_cases hz:lo≥a₀.size
    · rw [if_pos hz]
      exact wpS_pure ⟨lo,p,rfl,ok',hc,hlo⟩
    rw [if_neg hz]
    refine wpS_bind (wpS_count h0 (by omega) (by omega) ok' fun m stX ok2 hm1 hm2=>?_)
    dsimp only
    by_cases hmr:m<minRun' a₀.size a₀.size 0
    · rw [if_pos hmr]
      refine wpS_bind (wpS_lift (wpAny_rule ⟨rfl,?_⟩))
      refine wpS_bind (wpS_bin h0 (by omega) ok2 fun stX ok3=>?_)
      rw [if_neg (by decide)]
      refine wpS_bind (wpS_get ?_)
      cases hbk:(pendingOf stX).back? with
      | none =>
        dsimp only
        refine wpS_bind (wpS_modify (wpS_pure ⟨_,_,rfl,Ok.setP ok3 _,?_,by omega⟩))
        show Cov ((pendingOf stX).push _).toList 0 _
        rw [Array.toList_push,Ok.pend ok3]
        exact hc.snoc (by omega)
      | some q =>
        obtain ⟨s1,n1,g1⟩:=q
        dsimp only
        refine wpS_bind (wpS_mono (wpS_forRange (I:=fun _ c st3=>c=(none,())∧∃ p,Ok a₀ p st3∧Cov p.toList 0 lo) (Q:=fun c st3=>c=(none,())∧∃ p,Ok a₀ p st3∧Cov p.toList 0 lo) ?_ (fun _ _ z=>z) ⟨rfl,_,ok3,hc⟩) ?_)
        · rintro y c st3 _ _ ⟨rfl,p3,ok3,hc3⟩
          refine wpS_bind (wpS_get ?_)
          rw [ok3.pend]
          by_cases h2:p3.size>1
          · rw [if_pos h2,getElem?_pos p3 (p3.size - 2) (by omega)]
            generalize p3[p3.size - 2]=q
            obtain ⟨u,v,old⟩:=q
            dsimp only
            split
            · exact wpS_pure ⟨rfl,p3,ok3,hc3⟩
            · exact wpS_bind (wpS_mergeAt h0 ok3 hc3 hlo (by omega) fun p4 st4 ok4 hc4 _=>wpS_pure ⟨rfl,p4,ok4,hc4⟩)
          · rw [if_neg h2]
            exact wpS_pure ⟨rfl,p3,ok3,hc3⟩
        · rintro c st3 ⟨rfl,p3,ok3,hc3⟩
          refine wpS_bind (wpS_modify (wpS_bind (wpS_modify (wpS_pure ⟨_,_,rfl,⟨ok3.perm,ok3.kind,ok3.failed,rfl⟩,?_,by omega⟩))))
          show Cov (((pendingOf st3).modify _ _).push _).toList 0 _
          rw [Array.toList_push,Array.toList_modify,ok3.pend]
          exact (Cov.mod hc3).snoc (by omega)
    · rw [if_neg hmr]
      refine wpS_bind (wpS_get ?_)
      cases hbk:(pendingOf stX).back? with
      | none =>
        dsimp only
        refine wpS_bind (wpS_modify (wpS_pure ⟨_,_,rfl,Ok.setP ok2 _,?_,by omega⟩))
        show Cov ((pendingOf stX).push _).toList 0 _
        rw [Array.toList_push,Ok.pend ok2]
        exact hc.snoc (by omega)
      | some q =>
        obtain ⟨s1,n1,g1⟩:=q
        dsimp only
        refine wpS_bind (wpS_mono (wpS_forRange (I:=fun _ c st3=>c=(none,())∧∃ p,Ok a₀ p st3∧Cov p.toList 0 lo) (Q:=fun c st3=>c=(none,())∧∃ p,Ok a₀ p st3∧Cov p.toList 0 lo) ?_ (fun _ _ z=>z) ⟨rfl,_,ok2,hc⟩) ?_)
        · rintro y c st3 _ _ ⟨rfl,p3,ok3,hc3⟩
          refine wpS_bind (wpS_get ?_)
          rw [ok3.pend]
          by_cases h2:p3.size>1
          · rw [if_pos h2,getElem?_pos p3 (p3.size - 2) (by omega)]
            generalize p3[p3.size - 2]=q
            obtain ⟨u,v,old⟩:=q
            dsimp only
            split
            · exact wpS_pure ⟨rfl,p3,ok3,hc3⟩
            · exact wpS_bind (wpS_mergeAt h0 ok3 hc3 hlo (by omega) fun p4 st4 ok4 hc4 _=>wpS_pure ⟨rfl,p4,ok4,hc4⟩)
          · rw [if_neg h2]
            exact wpS_pure ⟨rfl,p3,ok3,hc3⟩
        · rintro c st3 ⟨rfl,p3,ok3,hc3⟩
          refine wpS_bind (wpS_modify (wpS_bind (wpS_modify (wpS_pure ⟨_,_,rfl,⟨ok3.perm,ok3.kind,ok3.failed,rfl⟩,?_,by omega⟩))))
          show Cov (((pendingOf st3).modify _ _).push _).toList 0 _
          rw [Array.toList_push,Array.toList_modify,ok3.pend]
          exact (Cov.mod hc3).snoc (by omega)
  case post =>
    rintro c st' ⟨lo,p,rfl,ok',hc,hlo⟩
    dsimp only
    refine wpS_bind (wpS_mono (wpS_forRange (I:=fun _ c st3=>c=(none,())∧∃ p,Ok a₀ p st3∧Cov p.toList 0 lo) (Q:=fun c st3=>c=(none,())∧∃ p,Ok a₀ p st3∧Cov p.toList 0 lo) ?_ (fun _ _ z=>z) ⟨rfl,_,ok',hc⟩) ?_)
    · rintro y c st3 _ _ ⟨rfl,p3,ok3,hc3⟩
      refine wpS_bind (wpS_get ?_)
      rw [ok3.pend]
      by_cases h2:p3.size≤1
      · rw [if_pos h2]
        exact wpS_pure ⟨rfl,p3,ok3,hc3⟩
      · rw [if_neg h2]
        have hi:∀ (c:Prop) [Decidable c],(if c then p3.size - 2 - 1 else p3.size - 2)+1<p3.size:=fun c _=>by
          by_cases hc:c
          · rw [if_pos hc];omega
          · rw [if_neg hc];omega
        exact wpS_bind (wpS_mergeAt h0 ok3 hc3 hlo (hi _) fun p4 st4 ok4 hc4 _=>wpS_pure ⟨rfl,p4,ok4,hc4⟩)
    · rintro c st3 ⟨rfl,p3,ok3,hc3⟩
      exact wpS_pure (h _ ok3.perm ok3.failed)
end
end Srt
namespace Srt
open PySem PyProof.Rows
theorem perm_out {vs:List Value} {ns:List Int} (hI:IntsAre vs ns) {xs:Array Keyed} (hp:xs.Perm (pairsOf vs)):∃ ns',IntsAre (xs.map (·.2)).toList ns'∧ns'.Perm ns:=by
  have hq:(xs.map (·.2)).toList.Perm vs:=by
    have h1:=(Array.perm_iff_toList_perm.mp hp).map (·.2)
    have h2:(pairsOf vs).toList.map (·.2)=vs:=by rw [pairsOf_toList];exact List.map_snd_zip (Nat.le_refl _)
    rw [h2] at h1
    rwa [Array.toList_map]
  refine ⟨_,intsAre_map _ fun v hv=>hI.all v (hq.mem_iff.mp hv),?_⟩
  rw [← hI.nums]
  exact hq.map numOf
section
variable {prog:Program} {w:World} {A:Around} {E:Value→Shared→Prop} {s:Shared}
theorem list_sort_any {l:Addr} {vs:List Value} {ns:List Int} {n:Nat} {P:Fin→Shared→Prop} (at_:s.heap.get? l=some (seqObj "list" vs.toArray n)) (hI:IntsAre vs ns) (hz:vs.length≤sizeLine)
    (h:∀ (out:Array Value) (ns':List Int),IntsAre out.toList ns'→ns'.Perm ns→P (.done (.ret .none)) {s with heap:=sortedHeap s.heap l vs out}) :
    wpAny (model prog w) A (Builtin.«list.sort» ⟨[.ref l],[]⟩) P E s:=by
  have hlt:l<s.heap.objs.size:=Heap.lt_size at_
  have hsz:vs.toArray.size=vs.length:=by simp
  rw [list_sort_plain]
  obtain ⟨e1,at1⟩:∃ e1,(s.heap.update l (Obj.mapSeq fun _=>#[])).get? l=some (seqObj "list" #[] e1):=⟨_,get?_update_seq at_ (fun _=>#[])⟩
  refine wpAny_bind (listItems_at at_ rfl (wpAny_bind (listUpdate_at at_ rfl (wpAny_bind (seqEpoch_at at1 rfl (wpAny_bind (wpAny_newTuple (wpAny_bind (wpAny_newList (wpAny_holding ?_))))))) (by omega) (by simp))))
  have at2:(((s.heap.update l (Obj.mapSeq fun _=>#[])).push (seqObj "tuple" vs.toArray 0)).push (seqObj "list" #[] 0)).get? l=some (seqObj "list" #[] e1):=by
    refine Heap.get?_push_of_some _ (Heap.get?_push_of_some _ at1)
  show wpAny (model prog w) A _ P E {s with heap:=((s.heap.update l (Obj.mapSeq fun _=>#[])).push (seqObj "tuple" vs.toArray 0)).push (seqObj "list" #[] 0)}
  dsimp only
  have fin:∀ st':SortSt,(arrOf st').Perm (pairsOf vs)→P (.done (.ret .none)) {s with heap:=sortedHeap s.heap l vs ((arrOf st').map (·.2))}:=fun st' hp=>by
    obtain ⟨ns',h1,h2⟩:=perm_out hI hp
    exact h _ ns' h1 h2
  have big:∀ st':SortSt,(arrOf st').Perm (pairsOf vs)→((arrOf st').map (·.2)).size≤sizeLine+1:=fun st' hp=>by
    rw [Array.size_map,hp.size_eq,pairsOf_size];omega
  by_cases h2:vs.toArray.size<2
  · rw [if_pos h2,if_pos h2]
    refine wpAny_bind (wpAny_pure (show wpAny _ _ _ _ _ _ from ?_))
    rw [StateT.run_pure]
    refine wpAny_bind (wpAny_pure (wpAny_bind (seqEpoch_at at2 rfl (wpAny_bind (listUpdate_at at2 rfl ?_ (by simp) (big (SortSt.mk' general' (vs.toArray.zip vs.toArray) #[] 7 none) (Array.Perm.refl _)))))))
    simp only [bne_self_eq_false,Bool.false_eq_true,if_false]
    exact wpAny_pure (fin (SortSt.mk' general' (vs.toArray.zip vs.toArray) #[] 7 none) (Array.Perm.refl _))
  · rw [if_neg h2,if_neg h2]
    obtain ⟨v1,v2,r,rfl⟩:∃ v1 v2 r,vs=v1::v2::r:=by
      rcases vs with _ | ⟨v1,_ | ⟨v2,r⟩⟩
      · simp at h2
      · simp at h2
      · exact ⟨v1,v2,r,rfl⟩
    rw [keyKind_ints hI]
    refine wpAny_bind (wpAny_pure (wpAny_bind (wpAny_mono (wpS_runs (a₀:=pairsOf (v1::v2::r)) (st:=SortSt.mk' oneType' ((v1::v2::r).toArray.zip (v1::v2::r).toArray) #[] 7 none)
      (Q:=fun _ st'=>(arrOf st').Perm (pairsOf (v1::v2::r))∧failedOf st'=none) hI.intKeys ⟨Array.Perm.refl _,rfl,rfl,rfl⟩ fun st' a1 a2=>⟨a1,a2⟩) ?_ fun _ _ e=>e)))
    rintro ⟨⟨⟩,st'⟩ s' ⟨rfl,hp,hf⟩
    dsimp only
    refine wpAny_bind (seqEpoch_at at2 rfl (wpAny_bind (listUpdate_at at2 rfl ?_ (by simp) (big st' hp))))
    rw [hf]
    simp only [bne_self_eq_false,Bool.false_eq_true,if_false]
    exact wpAny_pure (fin st' hp)
end
end Srt
namespace Srt
open PySem PyProof.Rows
section
variable {prog:Program} {w:World} {A:Around} {E:Value→Shared→Prop} {s:Shared} {T:String} {r d:Addr} {n:Nat} {P:Nat→Value→Prop} {OK:Heap→Prop}
theorem gather_src {R:Result→Shared→Prop} (K:PySem.W.KdlSrc prog w T r d n P OK) (hh:A.handled=none) (hok:OK s.heap) (hn:n≤sizeLine)
    (h:∀ h' tk acc c,(∀ b o,s.heap.get? b=some o→h'.get? b=some o)→h'.get? s.heap.objs.size=some {cls:=.type "list",dict:=none,data:=.seq acc c,slots:=#[]}→ItemsOf P acc n→R (.ok (.ret (.ref s.heap.objs.size))) {s with heap:=h',toks:=tk}) :
    codeAny (model prog w) A (.builtin "proto.collect" ⟨[.ref r],[]⟩) R s:=by
  have lt:=K.there _ hok
  refine codeAny_builtin PySem.F.entry_proto_collect ?_
  rw [Around.under_plainId PySem.F.plain_proto_collect _]
  show wpAny _ A.in1 (newList []>>=fun l=>again (.builtin "list.__iadd__" ⟨[l,.ref r],[]⟩)) _ _ s
  refine wpAny_bind (wpAny_newObj_type (wpAny_pure ⟨plainId_quiet PySem.F.plain_list_iadd _,codeAny_builtin PySem.F.entry_list_iadd ?_⟩))
  rw [Around.under_plainId PySem.F.plain_list_iadd _]
  show wpAny _ A.in1 (Builtin.List.listExtendWith (.ref s.heap.objs.size) (.ref r) (.ref s.heap.objs.size)) _ _ _
  exact PySem.W.kdl_extend (R:=R) (s:={s with heap:=s.heap.push {cls:=.type "list",data:=.seq ([]:List Value).toArray}}) K hh (K.keep _ _ hok fun b _ o e=>Heap.get?_push_of_some _ e) s.heap.objs.size (Nat.ne_of_gt lt.1) (Nat.ne_of_gt lt.2) _ 0 (Heap.get?_push_size _ rfl)
    (fun h' tk acc c k hS hacc=>h h' tk acc c (fun b o e=>k b o (Nat.ne_of_lt (Heap.lt_size e)) (Heap.get?_push_of_some _ e)) hS hacc) hn
theorem collect_src {Q:List Value→Shared→Prop} (K:PySem.W.KdlSrc prog w T r d n P OK) (hh:A.handled=none) (hok:OK s.heap) (hn:n≤sizeLine)
    (h:∀ h' tk acc,(∀ b o,s.heap.get? b=some o→h'.get? b=some o)→s.heap.objs.size<h'.objs.size→ItemsOf P acc n→Q acc.toList {s with heap:=h',toks:=tk}):wpAny (model prog w) A (collect (.ref r)) Q E s:=by
  unfold collect
  refine wpAny_bind (wpAny_runValue (gather_src K hh hok hn fun h' tk acc c k hS hacc=>?_))
  show wpAny _ A (load s.heap.objs.size>>=_) _ _ _
  exact wpAny_bind (wpAny_load hS (wpAny_pure (h h' tk acc k (Heap.lt_size hS) hacc)))
theorem sorted_heap {h:Heap} {l:Addr} {vs:List Value} {out:Array Value} {c:Nat} (e:h.get? l=some (seqObj "list" vs.toArray c)) :
    (∃ c',(sortedHeap h l vs out).get? l=some (seqObj "list" out c'))∧∀ b o,b≠l→h.get? b=some o→(sortedHeap h l vs out).get? b=some o:=by
  unfold sortedHeap
  constructor
  · exact ⟨_,get?_update_seq (Heap.get?_push_of_some _ (Heap.get?_push_of_some _ (get?_update_seq e _))) _⟩
  · intro b o hb q
    refine (Heap.get?_update_other _ _ (Ne.symm hb)).trans (Heap.get?_push_of_some _ (Heap.get?_push_of_some _ ?_))
    exact (Heap.get?_update_other _ _ (Ne.symm hb)).trans q
theorem sorted_src {ns:List Int} {Q:Value→Shared→Prop} (K:PySem.W.KdlSrc prog w T r d n P OK) (hh:A.handled=none) (hok:OK s.heap) (hn:n≤sizeLine) (hi:∀ acc,ItemsOf P acc n→IntsAre acc.toList ns)
    (h:∀ h' tk D c (out:Array Value) (ns':List Int),(∀ b o,s.heap.get? b=some o→h'.get? b=some o)→s.heap.objs.size≤D→h'.get? D=some (seqObj "list" out c)→IntsAre out.toList ns'→ns'.Perm ns→Q (.ref D) {s with heap:=h',toks:=tk}) :
    wpAny (model prog w) A (call (.builtin "sorted") [.ref r]) Q E s:=by
  refine Calls.call_function_entry kind_sorted plain_sorted entry_sorted (args_sorted1 _) ?_
  unfold Builtin.«sorted»
  refine wpAny_bind (m:=checkCount "sorted" 1 1 _) (wpAny_pure (wpAny_bind (collect_src K (by exact hh) hok hn fun h1 tk acc k1 z1 hacc=>?_)))
  have hI:=hi acc hacc
  have hz:acc.toList.length≤sizeLine:=by rw [Array.length_toList,hacc.1];exact hn
  refine wpAny_bind (wpAny_newList ?_ (hsz:=hz))
  have at1:(h1.push (seqObj "list" acc.toList.toArray 0)).get? h1.objs.size=some (seqObj "list" acc.toList.toArray 0):=Heap.get?_push_size _ rfl
  refine wpAny_bind (wpAny_holding (wpAny_call_entry slot_list_sort ⟨_,at1,rfl⟩ entry_list_sort (list_sort_any at1 hI hz fun out ns' a1 a2=>⟨_,rfl,?_⟩) (args_list_sort _)))
  obtain ⟨⟨c',g1⟩,g2⟩:=sorted_heap (out:=out) at1
  refine wpAny_pure ⟨_,rfl,h _ _ _ c' out ns' (fun b o e=>?_) ?_ g1 a1 a2⟩
  · have e1:=k1 b o e
    exact g2 b o (Nat.ne_of_lt (Heap.lt_size e1)) (Heap.get?_push_of_some _ e1)
  · exact Nat.le_of_lt z1
end
end Srt
namespace L2
open PySem PySem.Spec PyProof.Rows
theorem keys_ints {P:Program} {w:World} {vs:List (Key×Value)} {ns:List Int} (hk:vs.map (·.1)=ns.map Sum.inl) {acc:Array Value} (h:ItemsOf (fun i v=>∃ k x,vs[i]?=some (k,x)∧(mixKind P w).is k v=true) acc vs.length):IntsAre acc.toList ns:=by
  have hl:vs.length=ns.length:=by simpa using congrArg List.length hk
  have at_:∀ (i:Nat) (v:Value),acc.toList[i]?=some v→∃ n t,ns[i]?=some n∧v=Value.int n t:=fun i v e=>by
    obtain ⟨k,x,h1,h2⟩:=h.2 i v (by rw [← Array.getElem?_toList];exact e)
    have h3:(vs.map (·.1))[i]?=some k:=by rw [List.getElem?_map,h1];rfl
    rw [hk,List.getElem?_map] at h3
    cases q:ns[i]? with
    | none=>rw [q] at h3;cases h3
    | some m =>
      rw [q] at h3
      have h4:Sum.inl m=k:=Option.some.inj h3
      subst h4
      have h5:keyIs (Sum.inl m) v=true:=h2
      rcases keyIs_shape h5 with ⟨i',t,e1,e2⟩ | ⟨y,t,e1,_⟩
      · cases e1;exact ⟨m,t,rfl,e2⟩
      · cases e1
  have all:∀ v:Value,v∈acc.toList→∃ n t,v=Value.int n t:=fun v hv=>by
    obtain ⟨i,hi⟩:=List.getElem?_of_mem hv
    obtain ⟨n,t,_,e⟩:=at_ i v hi
    exact ⟨n,t,e⟩
  have hm:=intsAre_map _ all
  have e:acc.toList.map numOf=ns:=by
    apply List.ext_getElem?
    intro i
    rw [List.getElem?_map]
    cases q:acc.toList[i]? with
    | none =>
      have:acc.size≤i:=by simpa using q
      have hs:=h.1
      rw [List.getElem?_eq_none (by lia)]
      rfl
    | some v =>
      obtain ⟨n,t,e1,e2⟩:=at_ i v q
      rw [e1,e2]
      rfl
  rw [e] at hm
  exact hm
section
variable {X:Cx}
theorem call_sortedD (hc:X.calm=true):CallR X (.builtin "sorted") (fun xs H Q=>∃ (a:Addr) (kvs:List (Key×V)) (ns:List Int),xs=[.ref a]∧Rd H a (.dK kvs)∧kvs.map (·.1)=ns.map Sum.inl∧
    ∀ (l:Addr) (ns':List Int),H l=none→ns'.Perm ns→Q (.ref l) (upd H l (.lst (ns'.map V.int)))):=by
  intro pins s σ H xs us Q I r h
  obtain ⟨a,kvs,ns,rfl,e,hk,q⟩:=h
  obtain ⟨u,rfl,ru⟩:=vals1 r
  cases ru
  obtain ⟨z,hd,vs,rel,o,es,ep,ho,dd⟩:=dk_rd I.hok e
  have hkv:vs.map (·.1)=ns.map Sum.inl:=by rw [← rel.keys];exact hk
  have hl:vs.length=ns.length:=by simpa using congrArg List.length hkv
  refine Srt.sorted_src (ns:=ns) (PySem.W.kdl_dict (ep:=ep) (kvs:=vs) (knd:=mixKind X.prog X.w) hd) (I.ok.hd hc) ⟨o,es,ho,dd⟩ (by rw [← rel.length];exact z) (fun acc hacc=>keys_ints hkv hacc) fun h' tk D c out ns' k hD hg hI hp=>?_
  have hz:(ns'.map V.int).length≤sizeLine:=by rw [List.length_map,hp.length_eq,← hl,← rel.length];exact z
  exact ⟨.ref D,_,I.laid (a:=D) (o:=.lst (ns'.map V.int)) (t':=tk) k hD ⟨hz,out.toList,c,vals_ints hI,by simpa using hg⟩,rfl,q D ns' (I.hok.fresh hD) hp⟩
end
end L2
namespace PySem
open Sem (wp)
theorem list_no_keys:typeLookup (.type "list") "keys"=pure none:=by rw [typeLookup_type,builtinLookup_eq_fast];kernel_rfl
theorem noAttr_list {prog:Program} {w:World} {A:Around} {E:Value→Shared→Prop} {s:Shared} {a:Addr} {o:Obj} {xs:Array Value} {k:Nat} {name:Str} {Q:Option Value→Shared→Prop}
    (hx:s.heap.get? a=some o) (hc:o.cls=.type "list") (hdat:o.data=.seq xs k) (hd:o.dict=none) (hmiss:typeLookup (.type "list") name=pure none) (hname:(["__module__","__name__","__qualname__","__doc__","__annotations__"]:List Str).contains name=false) (hA:A.handled=none)
    (h:∀ h' tk,(∀ b ob,s.heap.get? b=some ob→h'.get? b=some ob)→Q none {s with heap:=h',toks:=tk}) (hsz:name.length+100≤sizeLine:=by size_fits) :
    wpAny (model prog w) A (getAttr? (.ref a) name) Q E s:=by
  obtain ⟨c,dct,dat,sl⟩:=o
  simp only at hc hdat hd
  subst hc hdat hd
  obtain ⟨hp,g,d,tk,os⟩:=s
  have hT:∀ tk',(⟨hp,g,d,tk',os⟩:Shared).TypeIs (.ref a) "list":=fun _=>⟨_,hx,rfl⟩
  have f1:=sub_AttributeError
  have f3:=F.slot_list_getattribute.lookup
  have f4:=F.slot_list_getattribute.bind (.ref a)
  have f5:=am_list_getattr_none
  unfold getAttr? getAttrBy? getAttrBy
  repeat (any_goals (first | assumption | exact hT _ | ((with_reducible show wpAny _ _ (call (Value.builtin "list.__getattribute__") _ _) _ _ _);refine call_meets F.slot_list_getattribute (hT _) am_entry_list_getattribute (F.args_list_getattribute_2 _ _) (meets_getattribute_miss_list a xs k sl name _ hmiss hname hsz) ⟨hx,hA,fun h' tk' e hx'=>?_⟩) | wp_step))
  obtain ⟨t',u',he⟩:=hx'.there
  show wpAny _ _ (getattributeRaised _ _ _ _ _ _ _) _ _ _
  unfold getattributeRaised
  repeat (any_goals (first | assumption | wp_step))
  exact h _ _ hx'.keeps
end PySem
namespace PySem
open Sem (wp)
namespace F
theorem entry_dict_update_loop:entryFor table "dict.update.loop"=some Builtin.«dict.update.loop»:=entryFor_of_tree (by kernel_rfl)
theorem plain_dict_update_loop:plainId "dict.update.loop"=true:=by decide +kernel
end F
section
variable {prog:Program} {w:World} {A:Around} {R:Result→Shared→Prop} {I:Addr} {fp wr:List Addr} {G:Array GenState→Array GenState→Prop} {n:Nat} {P:Nat→Value→Prop} {St:Nat→Shared→Prop}
variable {K:Type} [DecidableEq K] {knd:KeyKind prog w K}
theorem merged_len (rs:List (K×Value)):(merged [] rs).length≤rs.length:=by
  have gen:∀ (rs kvs:List (K×Value)),(merged kvs rs).length≤kvs.length+rs.length:=by
    intro rs
    induction rs with
    | nil=>intro kvs;simp [merged]
    | cons p r ih =>
      intro kvs
      have h:=ih (stored kvs p.1 p.2)
      have h2:(stored kvs p.1 p.2).length≤kvs.length+1:=by
        unfold stored
        split <;> simp
      show (merged (stored kvs p.1 p.2) r).length≤_
      simp only [List.length_cons]
      lia
  simpa using gen rs []
theorem codeAny_dict_pairs (W:WalksS prog w A.in1 I fp wr G n P St) (S:Addr) (hSf:S∉fp) (res:Value) (rs:List (K×Value)) (hn:rs.length=n) (hz:n≤sizeLine) (s0:Shared)
    (hval:∀ i v,P i v→∃ k x,rs[i]?=some (k,x)∧∀ h:Heap,(∀ b o,b∉S::wr→s0.heap.get? b=some o→h.get? b=some o)→∃ t o c key,v=.ref t∧h.get? t=some o∧o.cls=.type "tuple"∧o.data=.seq #[key,x] c∧knd.is k key=true) :
    ∀ (k i:Nat) (tk:Tok) (s:Shared),n - i=k→i≤n→St i s→(∀ b o,b∉S::wr→s0.heap.get? b=some o→s.heap.get? b=some o)→
      s.heap.DictOf knd S (merged [] (rs.take i))→
      (∀ s',Moved (S::wr) G s s'→s'.heap.DictOf knd S (merged [] rs)→R (.ok (.ret res)) s')→
      codeAny (model prog w) A (.builtin "dict.update.loop" ⟨[.ref S,.ref I,.int (i:Int) tk,res],[]⟩) R s:=by
  have hSw:S∉wr:=fun h=>hSf (W.sub _ h)
  have hsub:∀ b∈wr,b∈S::wr:=fun b hb=>List.mem_cons_of_mem _ hb
  intro k
  induction k with
  | zero =>
    intro i tk s hk hi hst h0 hS hR
    have hin:i=n:=by lia
    refine codeAny_builtin F.entry_dict_update_loop ?_
    rw [Around.under_plainId F.plain_dict_update_loop _]
    show wpAny _ A.in1 (pyNext (.ref I)>>=_) _ _ s
    refine wpAny_bind (W.done s _ _ (hin▸hst) fun s' hm=>?_)
    show wpAny _ A.in1 (Builtin.Dict.addKeywords S []>>=fun _=>ret res) _ _ s'
    refine wpAny_bind ?_
    unfold Builtin.Dict.addKeywords
    show wpAny _ A.in1 (pure ()) _ _ s'
    refine wpAny_pure (wpAny_pure (hR s' (hm.mono hsub) ?_))
    rw [hin,List.take_of_length_le (by lia)] at hS
    obtain ⟨o,es,ep,ho,rest⟩:=hS
    exact ⟨o,es,ep,hm.heap S _ hSw ho,rest⟩
  | succ k ih =>
    intro i tk s hk hi hst h0 hS hR
    have hlt:i<n:=by lia
    refine codeAny_builtin F.entry_dict_update_loop ?_
    rw [Around.under_plainId F.plain_dict_update_loop _]
    show wpAny _ A.in1 (pyNext (.ref I)>>=_) _ _ s
    refine wpAny_bind (W.item i s _ _ hlt hst fun v s' hP hst' hm=>?_)
    have h0':∀ b o,b∉S::wr→s0.heap.get? b=some o→s'.heap.get? b=some o:=fun b o hb e=>hm.heap b o (fun z=>hb (hsub b z)) (h0 b o hb e)
    obtain ⟨k',x,hr,ht⟩:=hval i v hP
    obtain ⟨t,o,c,key,rfl,ho,hc,hd,hkey⟩:=ht s'.heap h0'
    have hS':s'.heap.DictOf knd S (merged [] (rs.take i)):=by
      obtain ⟨o,es,ep,ho,rest⟩:=hS
      exact ⟨o,es,ep,hm.heap S _ hSw ho,rest⟩
    have hT:s'.TypeIs (.ref t) "tuple":=⟨o,ho,hc⟩
    have hlen:(merged [] (rs.take i)).length≤sizeLine:=by
      have:=merged_len (rs.take i)
      rw [List.length_take] at this
      lia
    refine wpAny_bind (wpAny_holding ?_)
    refine wpAny_bind (wpAny_tryCatch ?_)
    unfold Builtin.Dict.pairItems
    refine wpAny_bind (wpAny_typeOf hT ?_)
    refine wpAny_ite_split (fun _=>?_) (fun hab=>absurd (by decide) hab)
    repeat (any_goals (first | assumption | wp_step))
    rw [hd]
    refine wpAny_pure (wpAny_pure ?_)
    show wpAny _ _ (holding [key,x] (dictSet S key x)) _ _ _
    refine wpAny_holding (wpAny_dictSet_pairs hkey hS' (fun h' hD hsb=>?_) hlen)
    refine wpAny_pure ⟨plainId_quiet F.plain_dict_update_loop _,?_⟩
    have ei:rawInt ((i:Int)+1)=rawInt ((i+1:Nat):Int):=by push_cast;rfl
    rw [ei]
    have other:∀ b o,b≠S→s'.heap.get? b=some o→h'.get? b=some o:=fun b o hb e=>(hsb.2 b hb).trans e
    refine ih (i+1) _ _ (by lia) hlt (W.frame _ s' _ _ hst' (Nat.le_succ _) fun b hb o e=>other b o (fun h:b=S=>hSf (by rw [← h];exact hb)) e)
      (fun b o hb e=>other b o (fun h:b=S=>hb (by rw [h];exact List.mem_cons_self)) (h0' b o hb e)) ?_ fun s'' hm'' hS''=>?_
    · rw [merged_take_succ [] rs i (k',x) hr]
      exact hD
    · refine hR s'' (Moved.trans W.gtrans ((hm.mono hsub).then_heap (Nat.le_succ _) fun b o hb e=>?_) hm'') hS''
      exact other b o (fun h:b=S=>hb (by rw [h];exact List.mem_cons_self)) e
end
end PySem
namespace PySem
open Sem (wp)
section
variable {prog:Program} {w:World} {A:Around} {E:Value→Shared→Prop} {s:Shared}
variable {K:Type} [DecidableEq K] {knd:KeyKind prog w K}
theorem call_dict_pairs {l:Addr} {items:Array Value} {c:Nat} {Q:Value→Shared→Prop} (hh:A.handled=none) (hl:s.heap.get? l=some {cls:=.type "list",data:=.seq items c}) (hz:items.size≤sizeLine) (rs:List (K×Value)) (hn:rs.length=items.size)
    (hval:∀ (i:Nat) v,items[i]?=some v→∃ k x,rs[i]?=some (k,x)∧∃ t o c key,v=.ref t∧s.heap.get? t=some o∧o.cls=.type "tuple"∧o.data=.seq #[key,x] c∧knd.is k key=true)
    (hQ:∀ h' tk,h'.DictOf knd s.heap.objs.size (merged [] rs)→(∀ b o,s.heap.get? b=some o→h'.get? b=some o)→Q (.ref s.heap.objs.size) {s with heap:=h',toks:=tk}) :
    wpAny (model prog w) A (call (.type "dict") [.ref l]) Q E s:=by
  refine callType_codes (Q₁:=fun obj s₁=>obj=.ref s.heap.objs.size∧s₁={s with heap:=s.heap.push {cls:=.type "dict",data:=.dict #[]}}) F.kt_called_dict (F.kt_typeCall_dict_1 _) F.entry_dict_init (kt_code_dict_new _ ⟨rfl,rfl⟩) ?_
  rintro obj s₁ ⟨rfl,rfl⟩
  have hnew:(s.heap.push {cls:=.type "dict",data:=.dict #[]}).DictOf knd s.heap.objs.size []:=Heap.DictOf.new s.heap
  have hl1:(s.heap.push {cls:=.type "dict",data:=.dict #[]}).get? l=some {cls:=.type "list",data:=.seq items c}:=Heap.get?_push_of_some _ hl
  have hlS:l<s.heap.objs.size:=Heap.lt_size hl
  refine ⟨hnew.typeIs,F.args_dict_init_2 _ _,?_⟩
  unfold Builtin.«dict.__init__»
  refine wpAny_bind ?_
  unfold Builtin.Dict.selfAndRest
  refine wpAny_bind (wpAny_notOrdered_dict hnew.typeIs ?_)
  show wpAny _ _ (pure (s.heap.objs.size,[Value.ref l])) _ _ _
  refine wpAny_pure ?_
  show wpAny _ _ (Builtin.Dict.updateFrom "dict.__init__" s.heap.objs.size (.ref l) [] .none) _ _ _
  unfold Builtin.Dict.updateFrom
  refine wpAny_bind (wpAny_typeOf (T:="list") ⟨_,hl1,rfl⟩ ?_)
  rw [if_pos (by decide)]
  refine wpAny_bind (noAttr_list hl1 rfl rfl rfl list_no_keys (by decide) (by simpa using hh) fun h1 tk1 k1=>?_)
  refine wpAny_ite_split (fun _=>?_) (fun hab=>absurd rfl hab)
  refine wpAny_bind (wpAny_rule ?_)
  have hl2:=k1 _ _ hl1
  refine wpAny_bind (wpAny_pyIter_list ⟨_,hl2,rfl,c,rfl⟩ ?_)
  refine wpAny_pure ⟨plainId_quiet F.plain_dict_update_loop _,?_⟩
  have hd1:(s.heap.push {cls:=.type "dict",data:=.dict #[]}).get? s.heap.objs.size=some {cls:=.type "dict",data:=.dict #[]}:=Heap.get?_push_size _ rfl
  have hd2:=k1 _ _ hd1
  have hz1:s.heap.objs.size<h1.objs.size:=Heap.lt_size hd2
  have lI:l≠h1.objs.size:=Nat.ne_of_lt (Nat.lt_trans hlS hz1)
  have hSf:s.heap.objs.size∉[h1.objs.size,l]:=by
    simp only [List.mem_cons,List.not_mem_nil,or_false,not_or]
    exact ⟨Nat.ne_of_lt hz1,Nat.ne_of_gt hlS⟩
  have hh3:A.in1.in1.handled=none:=by simpa using hh
  have W:=(Walks.list (prog:=prog) (w:=w) (A:=A.in1.in1) hh3 h1.objs.size l lI items).toS
  have keep:∀ b o,s.heap.get? b=some o→b∉s.heap.objs.size::[h1.objs.size]:=fun b o e z=>by
    have hb:=Heap.lt_size e
    simp only [List.mem_cons,List.not_mem_nil,or_false] at z
    rcases z with z | z
    · rw [z] at hb;exact Nat.lt_irrefl _ hb
    · rw [z] at hb;exact Nat.lt_irrefl _ (Nat.lt_trans hb hz1)
  refine codeAny_dict_pairs (A:=A.in1) (knd:=knd) W s.heap.objs.size hSf .none rs hn hz s (fun i v hv=>?_) items.size 0 0 _ (by lia) (Nat.zero_le _) ⟨⟨_,Heap.get?_push_size _ rfl,rfl,rfl⟩,⟨_,Heap.get?_push_of_some _ hl2,rfl,c,rfl⟩⟩ (fun b o _ e=>Heap.get?_push_of_some _ (k1 _ _ (Heap.get?_push_of_some _ e))) ?_ fun s' hm hS=>?_
  · obtain ⟨k,x,hr,t,o,c',key,e1,e2,e3,e4,e5⟩:=hval i v hv
    exact ⟨k,x,hr,fun h hk=>⟨t,o,c',key,e1,hk t o (keep t o e2) e2,e3,e4,e5⟩⟩
  · obtain ⟨o,es,ep,ho,rest⟩:=hnew
    exact ⟨o,es,ep,Heap.get?_push_of_some _ (k1 _ _ ho),rest⟩
  · rw [Moved.eq_with hm]
    refine ⟨rfl,hQ s'.heap s'.toks hS fun b o e=>hm.heap b o (keep b o e) (Heap.get?_push_of_some _ (k1 _ _ (Heap.get?_push_of_some _ e)))⟩
end
end PySem
namespace Me
noncomputable def look (f:List (Int×Int)) (k:Int):Option Int:=(f.find? fun q=>decide (q.1=k)).map (·.2)
noncomputable def put (f:List (Int×Int)) (k v:Int):List (Int×Int) :=
  if (f.any fun p=>decide (p.1=k))=true then f.map (fun p=>if p.1=k then (p.1,v) else p) else f++[(k,v)]
noncomputable def addTo (f:List (Int×Int)) (k n:Int):List (Int×Int):=put f k ((look f k).getD 0+n)
noncomputable def figs (p:Int×Int) (w:Int) (n:Nat) (acc:List (Int×Int)):List (Int×Int):=(List.range n).foldl (fun acc (d:Nat)=>addTo acc (p.1+(d:Int)*w) p.2) acc
noncomputable def oneMore (f:List (Int×Int)) (b:Nat) (w:Int):List (Int×Int):=f.foldl (fun acc p=>figs p w b acc) []
noncomputable def waysW (b:Nat) (ws:List Int):List (Int×Int):=ws.foldl (fun f w=>oneMore f b w) [(0,1)]
noncomputable abbrev keys (f:List (Int×Int)):List Int:=f.map (·.1)
theorem figs_succ (p:Int×Int) (w:Int) (n:Nat) (acc:List (Int×Int)):figs p w (n+1) acc=addTo (figs p w n acc) (p.1+(n:Int)*w) p.2:=by
  unfold figs
  rw [List.range_succ,List.foldl_append]
  rfl
theorem oneMore_take {f:List (Int×Int)} {b i:Nat} {w:Int} {p:Int×Int} (h:f[i]?=some p):oneMore (f.take (i+1)) b w=figs p w b (oneMore (f.take i) b w):=by
  unfold oneMore
  rw [List.take_add_one,h,List.foldl_append]
  rfl
theorem waysW_take {b i:Nat} {ws:List Int} {w:Int} (h:ws[i]?=some w):waysW b (ws.take (i+1))=oneMore (waysW b (ws.take i)) b w:=by
  unfold waysW
  rw [List.take_add_one,h,List.foldl_append]
  rfl
theorem keys_repl (f:List (Int×Int)) (k v:Int):keys (f.map fun p=>if p.1=k then (p.1,v) else p)=keys f:=by
  rw [keys,List.map_map]
  apply List.map_congr_left
  intro p _
  show (if p.1=k then (p.1,v) else p).1=p.1
  split <;> rfl
theorem keys_put {f:List (Int×Int)} {k v:Int}:(keys f).Nodup→(keys (put f k v)).Nodup:=by
  intro nd
  unfold put
  split
  · rw [keys_repl];exact nd
  · rename_i h
    have hn:k∉keys f:=fun z=>h (by
      obtain ⟨p,hp,e⟩:=List.mem_map.mp z
      exact List.any_eq_true.mpr ⟨p,hp,by simpa using e⟩)
    rw [keys,List.map_append]
    refine List.nodup_append.mpr ⟨nd,by simp,fun a ha b hb=>?_⟩
    have:b=k:=by simpa using hb
    rw [this]
    exact fun z=>hn (z▸ha)
theorem keys_in {f:List (Int×Int)} {k v lo hi:Int} (h:∀ x∈keys f,lo≤x∧x≤hi) (hk:lo≤k∧k≤hi):∀ x∈keys (put f k v),lo≤x∧x≤hi:=by
  unfold put
  split
  · rw [keys_repl];exact h
  · intro x hx
    rw [keys,List.map_append] at hx
    rcases List.mem_append.mp hx with hx | hx
    · exact h x hx
    · have:x=k:=by simpa using hx
      rw [this];exact hk
structure Ok (f:List (Int×Int)) (m:Int):Prop where
  nd:(keys f).Nodup
  bd:∀ x∈keys f,-m≤x∧x≤m
theorem Ok.put {f:List (Int×Int)} {m k v:Int} (o:Ok f m) (h : -m≤k∧k≤m):Ok (put f k v) m:=⟨keys_put o.nd,keys_in o.bd h⟩
theorem Ok.nil {m:Int}:Ok [] m:=⟨by simp [keys],fun x h=>by simp [keys] at h⟩
theorem step_in {m x w:Int} {d b:Nat} (hx : -m≤x∧x≤m) (hw : -9≤w∧w≤9) (hb:b≤16) (hd:d<b) : -(m+135)≤x+(d:Int)*w∧x+(d:Int)*w≤m+135:=by
  have d0:(0:Int)≤d:=by lia
  have d15:(d:Int)≤15:=by lia
  have a1:(d:Int)*w≤d*9:=Int.mul_le_mul_of_nonneg_left hw.2 d0
  have a2:(d:Int)*(-9)≤d*w:=Int.mul_le_mul_of_nonneg_left hw.1 d0
  lia
theorem figs_ok {f:List (Int×Int)} {m w:Int} {p:Int×Int} {b:Nat} (hp : -m≤p.1∧p.1≤m) (hw : -9≤w∧w≤9) (hb:b≤16) (o:Ok f (m+135)):∀ n,n≤b→Ok (figs p w n f) (m+135)
  | 0,_=>o
  | n+1,h=>by
    rw [figs_succ]
    exact (figs_ok hp hw hb o n (by lia)).put (step_in hp hw hb (by lia))
theorem oneMore_ok {f:List (Int×Int)} {m w:Int} {b:Nat} (o:Ok f m) (hw : -9≤w∧w≤9) (hb:b≤16):∀ i,Ok (oneMore (f.take i) b w) (m+135)
  | 0=>Ok.nil
  | i+1=>by
    cases h:f[i]? with
    | none =>
      rw [List.take_add_one,h]
      simpa using oneMore_ok o hw hb i
    | some p =>
      rw [oneMore_take h]
      exact figs_ok (o.bd p.1 (List.mem_map.mpr ⟨p,List.mem_of_getElem? h,rfl⟩)) hw hb (oneMore_ok o hw hb i) b (Nat.le_refl _)
theorem oneMore_ok' {f:List (Int×Int)} {m w:Int} {b:Nat} (o:Ok f m) (hw : -9≤w∧w≤9) (hb:b≤16):Ok (oneMore f b w) (m+135):=by
  have:=oneMore_ok o hw hb f.length
  rwa [List.take_length] at this
theorem ways_ok {b:Nat} {ws:List Int} (hw:∀ w∈ws,-9≤w∧w≤9) (hb:b≤16):∀ i:Nat,Ok (waysW b (ws.take i)) (135*i)
  | 0 => ⟨by simp [waysW, keys], fun x h => by have : x = 0 := by simpa [waysW, keys] using h
                                               lia⟩
  | i+1=>by
    cases h:ws[i]? with
    | none =>
      rw [List.take_add_one,h]
      have o:=ways_ok hw hb i
      simp only [Option.toList_none,List.append_nil]
      exact ⟨o.nd,fun x hx=>by have:=o.bd x hx;lia⟩
    | some w =>
      rw [waysW_take h]
      have o:=oneMore_ok' (ways_ok hw hb i) (hw w (List.mem_of_getElem? h)) hb
      have e:(135*((i+1:Nat):Int))=135*(i:Int)+135:=by lia
      rw [e]
      exact o
theorem ways_ok' {b:Nat} {ws:List Int} (hw:∀ w∈ws,-9≤w∧w≤9) (hb:b≤16):Ok (waysW b ws) (135*ws.length):=by
  have:=ways_ok hw hb ws.length
  rwa [List.take_length] at this
theorem sub_len {α:Type} [DecidableEq α]:∀ {l m:List α},l.Nodup→(∀ x∈l,x∈m)→l.length≤m.length
  | [],_,_,_=>Nat.zero_le _
  | x::l,m,nd,h=>by
    have hx:=h x (by simp)
    have hn:=(List.nodup_cons.mp nd).1
    have:=sub_len (l:=l) (m:=m.erase x) (List.nodup_cons.mp nd).2 fun y hy=>(List.mem_erase_of_ne (show y≠x from fun e=>hn (by rw [← e];exact hy))).mpr (h y (List.mem_cons_of_mem _ hy))
    rw [List.length_erase_of_mem hx] at this
    have hp:0<m.length:=List.length_pos_of_mem hx
    simp only [List.length_cons]
    lia
theorem Ok.len {f:List (Int×Int)} {m:Nat} (o:Ok f m):f.length≤2*m+1:=by
  have h:=sub_len (l:=keys f) (m:=(List.range (2*m+1)).map fun (i:Nat)=>(i:Int) - m) o.nd fun x hx=>by
    have:=o.bd x hx
    refine List.mem_map.mpr ⟨(x+m).toNat,List.mem_range.mpr (by lia),by lia⟩
  simpa [keys] using h
theorem look_mem:∀ {g:List (Int×Int)} {p:Int×Int},(keys g).Nodup→p∈g→look g p.1=some p.2
  | [],_,_,h=>by simp at h
  | q::g,p,nd,h=>by
    have hn:q.1∉keys g:=(List.nodup_cons.mp nd).1
    have nd':=(List.nodup_cons.mp nd).2
    rcases List.mem_cons.mp h with rfl | h
    · simp [look,List.find?_cons]
    · have hne:¬ q.1=p.1:=fun e=>hn (by rw [e];exact List.mem_map.mpr ⟨p,h,rfl⟩)
      have:=look_mem nd' h
      simpa [look,List.find?_cons,hne] using this
theorem pairs_perm {f:List (Int×Int)} (nd:(keys f).Nodup) {ns:List Int} (h:ns.Perm (keys f)):(ns.map fun n=>(n,(look f n).getD 0)).Perm f:=by
  have h1:=h.map fun n=>(n,(look f n).getD 0)
  have e:(keys f).map (fun n=>(n,(look f n).getD 0))=f:=by
    rw [keys,List.map_map]
    conv=>rhs;rw [← List.map_id f]
    apply List.map_congr_left
    intro p hp
    show (p.1,(look f p.1).getD 0)=p
    rw [look_mem nd hp]
    rfl
  rw [e] at h1
  exact h1
theorem put_new {f:List (Int×Int)} {k v:Int} (h:k∉keys f):put f k v=f++[(k,v)]:=by
  unfold put
  rw [if_neg]
  intro z
  obtain ⟨p,hp,e⟩:=List.any_eq_true.mp z
  exact h (List.mem_map.mpr ⟨p,hp,by simpa using e⟩)
noncomputable def mergeI (f more:List (Int×Int)):List (Int×Int):=more.foldl (fun acc p=>put acc p.1 p.2) f
theorem merge_new:∀ (more f:List (Int×Int)),(keys (f++more)).Nodup→mergeI f more=f++more
  | [],f,_=>by simp [mergeI]
  | p::r,f,nd=>by
    have hp:p.1∉keys f:=by
      rw [keys,List.map_append] at nd
      have:=(List.nodup_append.mp nd).2.2
      exact fun z=>this p.1 z p.1 (by simp) rfl
    show mergeI (put f p.1 p.2) r=_
    rw [put_new hp,merge_new r (f++[(p.1,p.2)]) (by simpa using nd)]
    simp
end Me
namespace L2
open PySem PySem.Spec PyProof.Rows
theorem Paired.at {α β:Type} {R:α→β→Prop} {as:List α} {bs:List β} {i:Nat} {a:α} (h:Paired R as bs) (e:as[i]?=some a):∃ b,bs[i]?=some b∧R a b:=by
  induction h generalizing i with
  | nil=>simp at e
  | cons r _ ih =>
    cases i with
    | zero=>simp at e;subst e;exact ⟨_,rfl,r⟩
    | succ i =>
      obtain ⟨b,h1,h2⟩:=ih (i:=i) (by simpa using e)
      exact ⟨b,by simpa using h1,h2⟩
noncomputable abbrev PairsAt (H:Hp) (ts:List Addr) (kvs:List (Key×V)):Prop:=Paired (fun (t:Addr) (p:Key×V)=>H t=some (.tup [kV p.1,p.2])) ts kvs
theorem pairs_of {P:Program} {w:World} {H:Hp} {h:Heap} (ok:HOk P w H h):∀ {ts:List Addr} {kvs:List (Key×V)} {its:List Value},PairsAt H ts kvs→Vals (ts.map V.ref) its→
    ∃ rs:List (Key×Value),KV kvs rs∧Paired (fun (u:Value) (r:Key×Value)=>∃ t o c key,u=.ref t∧h.get? t=some o∧o.cls=.type "tuple"∧o.data=.seq #[key,r.2] c∧(mixKind P w).is r.1 key=true) its rs
  | [],_,_,.nil,r=>by cases r;exact ⟨[],.nil,.nil⟩
  | t::ts,p::kvs,its,.cons e hp,r=>by
    cases r with
    | cons r0 rr =>
      cases r0
      obtain ⟨rs,a,b⟩:=pairs_of ok hp rr
      obtain ⟨_,its2,rv,tu⟩:=ok t _ e
      obtain ⟨u1,u2,rfl,r1,r2⟩:=rv.two
      obtain ⟨o,c,ho,hc,hd⟩:∃ o c,h.get? t=some o∧o.cls=.type "tuple"∧o.data=.seq #[u1,u2] c:=by
        obtain ⟨o,ho,hc,c,hd⟩:=tu
        exact ⟨o,c,ho,hc,hd⟩
      exact ⟨(p.1,u2)::rs,.cons ⟨rfl,r2⟩ a,.cons ⟨t,o,c,u1,rfl,ho,hc,hd,kV_is r1⟩ b⟩
section
variable {X:Cx} {o:Expr} {td:TE}
theorem call_dictP (hc:X.calm=true):CallR X (.type "dict") (fun xs H Q=>∃ (l:Addr) (ts:List Addr) (kvs:List (Key×V)),xs=[.ref l]∧H l=some (.lst (ts.map V.ref))∧PairsAt H ts kvs∧
    ∀ p,H p=none→Q (.ref p) (upd H p (.dK (mergeK [] kvs)))):=by
  intro pins s σ H xs us Q I r h
  obtain ⟨l,ts,kvs,rfl,e,hp,q⟩:=h
  obtain ⟨u,rfl,ru⟩:=vals1 r
  cases ru
  obtain ⟨z,its,n,rv,e1⟩:=I.hok l _ e
  obtain ⟨rs,hk,hr⟩:=pairs_of I.hok hp rv
  have hlen:rs.length=its.length:=hr.length.symm
  have hz:its.length≤sizeLine:=by rw [← rv.length];exact z
  refine call_dict_pairs (knd:=mixKind X.prog X.w) (I.ok.hd hc) e1 (by rw [List.size_toArray];exact hz) rs (by rw [List.size_toArray];exact hlen) (fun i v hv=>?_) fun h' tk dd k=>?_
  · obtain ⟨b,hb,t,o,c,key,x1,x2,x3,x4,x5⟩:=Paired.at (i:=i) (a:=v) hr (by simpa using hv)
    exact ⟨b.1,b.2,hb,t,o,c,key,x1,x2,x3,x4,x5⟩
  · have hm:=length_mergeK kvs []
    have hkl:=hk.length
    refine ⟨.ref _,_,I.laid (a:=s.heap.objs.size) (o:=.dK (mergeK [] kvs)) (t':=tk) k (Nat.le_refl _) (dk_new ?_ (beq_eq_false_iff_ne.mpr (Ne.symm (Nat.ne_of_lt I.big))) (KV.merge hk .nil) dd),rfl,q _ (I.hok.fresh (Nat.le_refl _))⟩
    simp only [List.length_nil] at hm
    lia
end
noncomputable def intsD (f:List (Int×Int)):List (Key×V):=f.map fun p=>(Sum.inl p.1,V.int p.2)
theorem valV_ints (f:List (Int×Int)) (k:Int):valV (intsD f) (Sum.inl k)=(Me.look f k).map V.int:=by
  induction f with
  | nil=>rfl
  | cons p r ih =>
    by_cases e:p.1=k
    · have h1:valV (intsD (p::r)) (Sum.inl k)=some (V.int p.2):=valV_pos (by show Sum.inl p.1=Sum.inl k;rw [e])
      rw [h1]
      simp [Me.look,List.find?_cons,e]
    · have h1:valV (intsD (p::r)) (Sum.inl k)=valV (intsD r) (Sum.inl k):=valV_neg (by intro z;exact e (Sum.inl.inj z))
      rw [h1,ih]
      simp [Me.look,List.find?_cons,e]
section
variable {X:Cx}
end
theorem put_ints (f:List (Int×Int)) (k v:Int):putK (intsD f) (Sum.inl k) (V.int v)=intsD (Me.put f k v):=by
  have e:((intsD f).any fun kv=>decide (kv.1=Sum.inl k))=f.any fun p=>decide (p.1=k):=by
    rw [intsD,List.any_map]
    congr 1
    funext p
    show decide (Sum.inl p.1=(Sum.inl k:Key))=decide (p.1=k)
    by_cases z:p.1=k
    · simp [z]
    · have z':¬ (Sum.inl p.1:Key)=Sum.inl k:=fun q=>z (Sum.inl.inj q)
      simp [z,z']
  unfold putK Me.put
  rw [e]
  split
  · rw [intsD,List.map_map,intsD,List.map_map]
    apply List.map_congr_left
    intro p _
    show (if (Sum.inl p.1:Key)=Sum.inl k then (Sum.inl p.1,V.int v) else (Sum.inl p.1,V.int p.2))=(Sum.inl (if p.1=k then (p.1,v) else p).1,V.int (if p.1=k then (p.1,v) else p).2)
    by_cases z:p.1=k
    · rw [if_pos (by rw [z]),if_pos z]
    · rw [if_neg (fun q=>z (Sum.inl.inj q)),if_neg z]
  · simp [intsD]
theorem merge_ints:∀ (more f:List (Int×Int)),mergeK (intsD f) (intsD more)=intsD (Me.mergeI f more)
  | [],f=>rfl
  | p::r,f=>by
    show mergeK (putK (intsD f) (Sum.inl p.1) (V.int p.2)) (intsD r)=_
    rw [put_ints,merge_ints r]
    rfl
end L2
namespace L2
open PySem PySem.Spec PyProof.Rows
section
variable {X:Cx}
theorem call_sumA (hc:X.calm=true):CallR X (.builtin "sum") (fun xs H Q=>∃ (p:Addr) (ns:List Int),xs=[.ref p]∧SqL X.K H p (ns.map V.int)∧Q (.int ns.sum) H):=by
  intro pins s σ H xs us Q I r h
  obtain ⟨p,ns,rfl,hq,q⟩:=h
  obtain ⟨u,rfl,rx⟩:=vals1 r
  cases rx
  obtain ⟨its,rv,pl,hz⟩:=I.list hq
  have hl:=pl.isList
  have hlt:p<s.heap.objs.size:=by obtain ⟨_,e,_⟩:=hl;exact Heap.lt_size e
  have hn:its.toArray.size=ns.length:=by rw [List.size_toArray,← rv.length,List.length_map]
  refine call_sum_walkG (wpAny_pyIter_list hl ?_)
  refine ⟨_,_,_,_,_,_,fun i=>(ns[i]?).getD 0,rfl,Walks.list (A:=X.A.in1) (I.ok.hd hc) s.heap.objs.size p (Nat.ne_of_lt hlt) its.toArray,⟨⟨_,Heap.get?_push_size _ rfl,rfl,rfl⟩,hl.push _⟩,fun b hb'=>?_,fun i v hP=>?_,fun h' tk t' hk=>?_⟩
  · show b<(s.heap.push _).objs.size
    rw [Heap.size_push]
    rcases List.mem_cons.mp hb' with rfl | hb'
    · exact Nat.lt_succ_self _
    · have e:b=p:=by simpa using hb'
      rw [e];exact Nat.lt_succ_of_lt hlt
  · have hv:its[i]?=some v:=by simpa using hP
    cases eb:ns[i]? with
    | none =>
      have:=rv.none_of (i:=i) (by rw [List.getElem?_map,eb];rfl)
      rw [this] at hv;cases hv
    | some b =>
      obtain ⟨u,hu,ru⟩:=rv.get (i:=i) (x:=.int b) (by rw [List.getElem?_map,eb];rfl)
      rw [hu] at hv;cases hv
      obtain ⟨t,rfl⟩:=ru
      exact ⟨t,by simp [eb]⟩
  · rw [hn,pre_take ns ns.length (Nat.le_refl _),List.take_length]
    exact ⟨.int _,H,(show Inv X pins σ H {s with heap:=h',toks:=tk} from seen I hk),⟨_,rfl⟩,q⟩
noncomputable def tSVals (td:TE):TE:=fun σ H Q=>td σ H fun x H1=>∃ a kvs,∃ ns:List Int,x=.ref a∧H1 a=some (.dK kvs)∧kvs.map (·.2)=ns.map V.int∧Q (.int ns.sum) H1
theorem pe_svals {o:Expr} {td:TE} {p1 q1 apos cpos:Pos} (hc:X.calm=true) (hm1:X.mg "sum"=none) (hg1:Gl X "sum") (ho:PE X o td) (hbase:attributeBase o "values" X.env (eval o X.env)=eval o X.env:=by rfl) (hline:(apos.endLine==cpos.line)=true:=by rfl) :
    PE X (.Call (.Name "sum" p1) [.Call (.Attribute o "values" apos) [] [] cpos] [] q1) (tSVals td):=by
  intro pins s σ H Q I h
  refine wpAny_Call_Name_kw (ld_blt I hg1 hm1 boot_sum ?_)
  refine PyProof.Rows.callWith_builtin1 ?_ rfl rfl
  show wpAny _ _ (spliced ((false,eval (.Call (.Attribute o "values" apos) [] [] cpos) X.env)::backTo q1 (starEach [] X.env))) _ _ s
  refine Calls.spliced_cons ?_
  refine wpAny_Call_method0_late hbase hline (thn (ho pins s σ H _ I h) fun v s1 ⟨x,H1,I1,r1,a,kvs,ns,ex,he,hns,q⟩=>?_)
  subst ex
  obtain rfl:v=Value.ref a:=r1
  obtain ⟨t1,t2,_⟩:=isD_at I1 (.inl ⟨kvs,.inl he⟩)
  obtain ⟨z,hd,vs,rel,dd⟩:=dk_of I1.hok he
  refine ⟨"dict","dict.values",PySem.F.plainAttrs_dict,PySem.F.slot_dict_values,PySem.F.type_dict_values,t1,t2,Calls.callWith_builtin rfl (PySem.evalArgs_none ?_)⟩
  refine call_meetsIn PySem.F.slot_dict_values dd.typeIs PySem.F.entry_dict_values (PySem.F.args_dict_values_1 _) (meets_dict_values (mixKind X.prog X.w) a hd) ⟨⟨_,dd⟩,?_⟩
  refine Calls.spliced_nil ?_
  obtain ⟨ob,es,ep,hob,rest⟩:=dd
  have hob2:=Heap.get?_push_of_some {cls:=.type "dict_values",data:=.fields #[.ref a]} hob
  have hl:=rel.length
  have hln:kvs.length=ns.length:=by simpa using congrArg List.length hns
  have KS:=PySem.W.kdl_values (prog:=X.prog) (w:=X.w) (r:=s1.heap.objs.size) (d:=a) (ep:=ep) (kvs:=vs) (knd:=mixKind X.prog X.w)
  have hok:(s1.heap.push {cls:=.type "dict_values",data:=.fields #[.ref a]}).IsValuesView s1.heap.objs.size a∧(s1.heap.push {cls:=.type "dict_values",data:=.fields #[.ref a]}).DictAt (mixKind X.prog X.w) a vs ep:=⟨⟨_,Heap.get?_push_size _ rfl,rfl,rfl⟩,⟨ob,es,hob2,rest⟩⟩
  refine call_sum_walkG ?_
  obtain ⟨oI,St,hit,W,st⟩:=KS.iter X.A.in1 {s1 with heap:=s1.heap.push {cls:=.type "dict_values",data:=.fields #[.ref a]}} (I1.ok.hd hc) hok
  refine hit _ _ ⟨_,_,_,_,_,_,fun i=>(ns[i]?).getD 0,rfl,W,st,fun b hb=>?_,fun i v hv=>?_,fun h' tk t' hk=>?_⟩
  · show b<(Heap.push _ oI).objs.size
    rw [Heap.size_push]
    rcases List.mem_cons.mp hb with e | hb
    · rw [e];exact Nat.lt_succ_self _
    · rw [List.mem_singleton.mp hb];exact Nat.lt_succ_of_lt (KS.there _ hok).2
  · obtain ⟨k',e1⟩:=hv
    have hi:i<kvs.length:=by rw [hl];exact (List.getElem?_eq_some_iff.mp e1).1
    obtain ⟨u',hu',ru⟩:=KV.at rel (i:=i) (p:=kvs[i]) (by simp [hi])
    rw [e1] at hu'
    have eu:v=u':=congrArg Prod.snd (Option.some.inj hu')
    have e2:(kvs.map (·.2))[i]?=(ns.map V.int)[i]?:=by rw [hns]
    have e3:(kvs.map (·.2))[i]?=some (kvs[i]).2:=by simp [hi]
    have e4:(ns.map V.int)[i]?=some (V.int ns[i]):=by simp [show i<ns.length by omega]
    rw [e3,e4] at e2
    have e5:=Option.some.inj e2
    rw [e5] at ru
    obtain ⟨t,rfl⟩:=ru
    refine ⟨t,?_⟩
    rw [eu]
    have e6:ns[i]?=some ns[i]:=List.getElem?_eq_getElem (show i<ns.length by omega)
    show Value.int ns[i] t=Value.int ((ns[i]?).getD 0) t
    rw [e6]
    rfl
  · rw [← hl,hln,pre_take ns ns.length (Nat.le_refl _),List.take_length]
    have hk2:∀ b o,s1.heap.get? b=some o→h'.get? b=some o:=fun b o e=>hk b o (fun hI=>absurd (Heap.lt_size e) (by
      rw [List.mem_singleton.mp hI]
      show ¬ (s1.heap.push _).objs.size<_
      rw [Heap.size_push];omega)) (Heap.get?_push_of_some _ (Heap.get?_push_of_some _ e))
    exact ⟨.int _,H1,I1.kept (t':=tk) (h':=h') hk2,⟨_,rfl⟩,q⟩
end
end L2
namespace Hv
open PySem L2
section
variable {P:Program} {w:World} {K:PySem.W.Frag} {mg:Str→Option Value} {base:Heap}
theorem scWhole:FnScope ["thing"] ["thing"] (defScope sWhole):=⟨rfl,rfl,rfl,by decide +kernel,rfl,by decide +kernel,by decide +kernel⟩
theorem ok_whole {f:Addr} {fd:FuncData} (F:Fun K "is_whole" "is_whole" sWhole f fd) (T:Txt mg):FnOk P w K mg base CX0 1 f fd ["thing"] spWhole:=by
  refine F.ok scWhole (fun vs H Q E h=>?_) (fun cdv A outer s H vs Q E hr h=>?_)
  · obtain ⟨v,rfl,_⟩:=h;rfl
  · obtain ⟨v,rfl,ty,k⟩:=h
    refine ⟨_,pss_one (ps_ret (pe_and (pe_callB call_isi (by rfl) T.isi boot_isinstance (pa_cons (pv 0) (pa_cons (pe_ty T.int boot_int) pa_nil)))
      (pe_one (pe_not (pe_callB call_isi (by rfl) T.isi boot_isinstance (pa_cons (pv 0) (pa_cons (pe_ty T.bool boot_bool) pa_nil))))))),?_⟩
    cases ty with
    | non=>exact ⟨_,rfl,_,_,_,_,rfl,.non,kit_ni,false,rfl,iteF k⟩
    | bl b=>exact ⟨_,rfl,_,_,_,_,rfl,.bl b,kit_bi,true,rfl,iteT ⟨_,rfl,_,_,_,_,rfl,.bl b,kit_bb,true,rfl,k⟩⟩
    | int i=>exact ⟨_,rfl,_,_,_,_,rfl,.int i,kit_ii,true,rfl,iteT ⟨_,rfl,_,_,_,_,rfl,.int i,kit_ib,false,rfl,k⟩⟩
    | str x=>exact ⟨_,rfl,_,_,_,_,rfl,.str x,kit_si,false,rfl,iteF k⟩
    | lst e=>exact ⟨_,rfl,_,_,_,_,rfl,.lst e,kit_li,false,rfl,iteF k⟩
    | tup e=>exact ⟨_,rfl,_,_,_,_,rfl,.tup e,kit_ti,false,rfl,iteF k⟩
    | dK e=>exact ⟨_,rfl,_,_,_,_,rfl,.dK e,kit_di,false,rfl,iteF k⟩
theorem scBetw:FnScope ["thing","least","greatest"] ["thing","least","greatest"] (defScope sBetw):=⟨rfl,rfl,rfl,by decide +kernel,rfl,by decide +kernel,by decide +kernel⟩
theorem ok_betw {f:Addr} {fd:FuncData} (F:Fun K "is_between" "is_between" sBetw f fd) (D1:Def P w K mg base 1 "is_whole" ["thing"] spWhole):FnOk P w K mg base CX0 2 f fd ["thing","least","greatest"] spBetw:=by
  refine F.ok scBetw (fun vs H Q E h=>?_) (fun cdv A outer s H vs Q E hr h=>?_)
  · obtain ⟨v,lo,hi,rfl,_⟩:=h;rfl
  · obtain ⟨v,lo,hi,rfl,ty,k⟩:=h
    refine ⟨_,pss_one (ps_ret (pe_and (pe_fn D1 hr (by rfl) (pa_cons (pv 0) pa_nil)) (pe_one (pe_chain op_le op_le (pv 1) (pv 0) (pv 2))))),?_⟩
    refine ⟨_,rfl,v,rfl,ty,_,rfl,?_⟩
    cases v with
    | int i =>
      refine iteT ?_
      refine ⟨_,rfl,_,rfl,_,_,rfl,rfl,_,rfl,?_⟩
      by_cases h1:lo≤i
      · rw [decide_eq_true h1]
        refine iteT ⟨_,rfl,_,_,rfl,rfl,?_⟩
        have e:betw (.int i) lo hi=decide (i≤hi):=by simp [betw,h1]
        rw [e] at k
        exact k
      · rw [decide_eq_false h1]
        refine iteF ?_
        have e:betw (.int i) lo hi=false:=by simp [betw,h1]
        rw [e] at k
        exact k
    | _=>exact iteF k
theorem scLBetw:FnScope ["thing","least","greatest"] ["thing","least","greatest"] (defScope sLBetw):=⟨rfl,rfl,rfl,by decide +kernel,rfl,by decide +kernel,by decide +kernel⟩
theorem ok_lbetw {f:Addr} {fd:FuncData} (F:Fun K "is_list_between" "is_list_between" sLBetw f fd) (T:Txt mg) (D2:Def P w K mg base 2 "is_between" ["thing","least","greatest"] spBetw):FnOk P w K mg base CX0 3 f fd ["thing","least","greatest"] spLBetw:=by
  refine F.ok scLBetw (fun vs H Q E h=>?_) (fun cdv A outer s H vs Q E hr h=>?_)
  · obtain ⟨a,xs,lo,hi,rfl,_⟩:=h;rfl
  · obtain ⟨a,xs,lo,hi,rfl,ha,hlen,hth,k⟩:=h
    refine ⟨_,pss_one (ps_ret (pe_and (pe_callB call_isi (by rfl) T.isi boot_isinstance (pa_cons (pv 0) (pa_cons (pe_ty T.list boot_list) pa_nil)))
      (pe_one (pe_callB (call_all rfl) (by rfl) T.all boot_all (pa_cons
        (pe_cmp1 (defScope sLBetw) ["thing","least","greatest"] ["least","greatest"] [1,2] rfl (pi_list (pv 0)) (fun cl C s H fp=>pf_nil) (fun cl C s H fp=>pe_fn D2 hr (by rfl) (pa_cons (pv 0) (pa_cons (pv 1) (pa_cons (pv 2) pa_nil)))) (by decide +kernel)) pa_nil))))),?_⟩
    refine ⟨_,rfl,_,_,_,_,rfl,.lst ha,kit_ll,true,rfl,iteT ?_⟩
    refine ⟨_,rfl,a,rfl,⟨_,SqL.of ha⟩,comp_list (K:=K) (a:=a) (xs:=xs) (fun i ys H2=>ys=((xs.take i).map fun x=>V.bl (betw x lo hi))∧Same H H2) ⟨by simp,Same.refl _⟩ (fun i ys H2 _ p=>SqL.of (p.2 _ _ ha)) ?_ ?_⟩
    · rintro i x ys H2 hx ⟨rfl,s2⟩
      have hil:i<xs.length:=(List.getElem?_eq_some_iff.mp hx).1
      refine ⟨szl (by rw [List.length_map,List.length_take];lia),?_⟩
      refine ⟨_,rfl,_,rfl,_,rfl,x,lo,hi,rfl,(hth x (List.mem_of_getElem? hx)).keep s2,?_,s2⟩
      rw [List.take_add_one,hx]
      simp
    · rintro ys H2 ⟨rfl,s2⟩ D hD
      refine ⟨D,xs.map fun x=>betw x lo hi,rfl,SqL.of ?_,?_⟩
      · rw [upd_same,List.take_length,List.map_map]
        rfl
      · have e:(xs.map fun x=>betw x lo hi).all id=xs.all fun x=>betw x lo hi:=by rw [List.all_map];rfl
        rw [e]
        exact k _ (same_upd2 s2 (s2.free hD))
theorem scIsFrame:FnScope ["thing"] ["thing"] (defScope sIsFrame):=⟨rfl,rfl,rfl,by decide +kernel,rfl,by decide +kernel,by decide +kernel⟩
theorem ok_isframe {f:Addr} {fd:FuncData} (F:Fun K "is_frame" "is_frame" sIsFrame f fd) (T:Txt mg) (D2:Def P w K mg base 2 "is_between" ["thing","least","greatest"] spBetw) (D3:Def P w K mg base 3 "is_list_between" ["thing","least","greatest"] spLBetw) :
    FnOk P w K mg base CX0 4 f fd ["thing"] spIsFrame:=by
  refine F.ok scIsFrame (fun vs H Q E h=>?_) (fun cdv A outer s H vs Q E hr h=>?_)
  · obtain ⟨g,a,c,b,ps,ws,rfl,_⟩:=h;rfl
  · obtain ⟨g,a,c,b,ps,ws,rfl,G,k⟩:=h
    have ok:=G.ok
    have hsum:=ok.sum
    refine ⟨_,pss_cons (ps_if (PW.pt (pw_or (pt_not (pt_val (pe_callB call_isi (by rfl) T.isi boot_isinstance (pa_cons (pv 0) (pa_cons (pe_ty T.tuple boot_tuple) pa_nil))))) (pw_or1 (pt_cmpR op_ne (lenS T.len (by rfl) (pv 0)) pe_int (nomark _))))) (pss_one (ps_ret pe_bl)) pss_nil)
      (pss_cons (ps_if (pt_not (pt_val (pe_fn D2 (hr.mono (by decide)) (by rfl) (pa_cons (ixt (pv 0) pe_int) (pa_cons pe_int (pa_cons pe_int pa_nil)))))) (pss_one (ps_ret pe_bl)) pss_nil)
      (pss_cons (ps_if (PW.pt (pw_or (pt_not (pt_val (pe_fn D3 hr (by rfl) (pa_cons (ixt (pv 0) pe_int) (pa_cons pe_int (pa_cons pe_int pa_nil)))))) (pw_or1 (pt_not (pt_chain op_le op_le pe_int (lenS T.len (by rfl) (ixt (pv 0) pe_int)) pe_int))))) (pss_one (ps_ret pe_bl)) pss_nil)
      (pss_one (ps_ret (pe_and (pe_fn D3 hr (by rfl) (pa_cons (ixt (pv 0) pe_int) (pa_cons (pe_un un_neg pe_int) (pa_cons pe_int pa_nil))))
        (pe_one (pe_cmpR op_eq (lenS T.len (by rfl) (ixt (pv 0) pe_int)) (pe_callB (call_sumA rfl) (by rfl) T.sum boot_sum (pa_cons (ixt (pv 0) pe_int) pa_nil)) (nomark _)))))))),?_⟩
    -- a tuple of three
    refine ⟨_,rfl,_,_,_,_,rfl,.tup G.tp,kit_tt,true,rfl,iteF ?_⟩
    refine ⟨_,rfl,g,_,rfl,.inr (SqT.of G.tp),rfl,_,rfl,iteNS rfl ?_⟩
    -- the base
    refine ⟨_,rfl,_,_,_,_,rfl,rfl,SqT.of G.tp,rfl,⟨.int b,2,16,rfl,.int _,_,rfl,?_⟩⟩
    have e1:betw (.int b) 2 16=true:=by
      have h1:=ok.b2
      have h2:=ok.b16
      simp only [betw,Bool.and_eq_true,decide_eq_true_eq]
      lia
    rw [e1]
    refine iteF ?_
    -- the parts
    refine ⟨_,rfl,_,_,_,_,rfl,rfl,SqT.of G.tp,rfl,⟨a,_,1,6,rfl,G.hp,(by simp [natV];have:=ok.l4;lia),things_nats ps,fun H1 s1=>⟨_,rfl,?_⟩⟩⟩
    have e2:((natV ps).all fun x=>betw x 1 6)=true:=betw_nats (lo:=1) (hi:=6) ok.pr
    rw [e2]
    refine iteF ?_
    refine ⟨_,rfl,_,_,_,_,rfl,rfl,SqT.of (s1 _ _ G.tp),rfl,⟨a,_,rfl,.inl (SqL.of (s1 _ _ G.hp)),_,_,rfl,rfl,_,rfl,?_⟩⟩
    have e3:((natV ps).length:Int)=ps.length:=by simp [natV]
    have l2:=ok.l2
    have l4:=ok.l4
    refine ite2 (fun _=>?_) (fun h=>absurd (decide_eq_true (by lia)) h)
    refine ⟨_,_,rfl,rfl,_,rfl,?_⟩
    refine iteNS (by lia) ?_
    -- the weights
    refine ⟨_,rfl,_,_,_,_,rfl,rfl,SqT.of (s1 _ _ G.tp),rfl,⟨_,rfl,⟨c,_,-9,9,rfl,s1 _ _ G.hw,(by rw [List.length_map,ok.wl];lia),things_ints ws,fun H2 s2=>⟨_,rfl,?_⟩⟩⟩⟩
    have e4:((ws.map V.int).all fun x=>betw x (-9) 9)=true:=betw_ints ok.wr
    rw [e4]
    refine iteT ?_
    have G2:=(G.keep s1).keep s2
    refine ⟨_,rfl,_,_,_,_,rfl,rfl,SqT.of G2.tp,rfl,⟨c,_,rfl,.inl (SqL.of G2.hw),?_⟩⟩
    refine ⟨_,rfl,_,_,_,_,rfl,rfl,SqT.of G2.tp,rfl,⟨a,ps.map fun (p:Nat)=>(p:Int),rfl,SqL.of (by rw [← natV_eq];exact G2.hp),rfl,?_⟩⟩
    · have e5:decide (V.int ((ws.map V.int).length:Int)=V.int (ps.map fun (p:Nat)=>(p:Int)).sum)=true:=by
        rw [decide_eq_true_eq,Ma.sum_cast,List.length_map,ok.wl]
      rw [e5]
      exact k H2 (s1.trans s2)
theorem scNeedFrame:FnScope ["thing"] ["thing"] (defScope sNeedFrame):=⟨rfl,rfl,rfl,by decide +kernel,rfl,by decide +kernel,by decide +kernel⟩
theorem ok_needframe {f:Addr} {fd:FuncData} (F:Fun K "need_frame" "need_frame" sNeedFrame f fd) (D4:Def P w K mg base 4 "is_frame" ["thing"] spIsFrame):FnOk P w K mg base CX0 5 f fd ["thing"] spNeedFrame:=by
  refine F.ok scNeedFrame (fun vs H Q E h=>?_) (fun cdv A outer s H vs Q E hr h=>?_)
  · obtain ⟨g,a,c,b,ps,ws,rfl,_⟩:=h;rfl
  · obtain ⟨g,a,c,b,ps,ws,rfl,G,k⟩:=h
    refine ⟨_,pss_one (ps_if (pt_not (pt_val (pe_fn D4 hr (by rfl) (pa_cons (pv 0) pa_nil)))) pss_never pss_nil),?_⟩
    exact ⟨_,rfl,g,a,c,b,ps,ws,rfl,G,fun H1 s1=>⟨_,rfl,iteF (k H1 s1)⟩⟩
theorem scHowMany:FnScope ["frame","many","place"] ["frame"] (defScope sHowMany):=⟨rfl,rfl,rfl,by decide +kernel,rfl,by decide +kernel,by decide +kernel⟩
theorem ok_howmany {f:Addr} {fd:FuncData} (F:Fun K "how_many" "how_many" sHowMany f fd) (T:Txt mg) (D5:Def P w K mg base 5 "need_frame" ["thing"] spNeedFrame):FnOk P w K mg base CX0 6 f fd ["frame"] spHowMany:=by
  refine F.ok scHowMany (fun vs H Q E h=>?_) (fun cdv A outer s H vs Q E hr h=>?_)
  · obtain ⟨g,a,c,b,ps,ws,rfl,_⟩:=h;rfl
  · obtain ⟨g,a,c,b,ps,ws,rfl,G,k⟩:=h
    have ok:=G.ok
    have hsum:=ok.sum
    refine ⟨_,pss_cons (ps_expr (pe_fn D5 hr (by rfl) (pa_cons (pv 0) pa_nil)))
      (pss_cons (ps_set (i:=1) scHowMany.nd rfl (Or.inl rfl) pe_int)
      (pss_cons (ps_for PassesOwn.never rfl (pi_range1 (by rfl) T.range (pa_cons (lenS T.len (by rfl) (ixt (pv 0) pe_int)) pa_nil)) (pg_name (i:=2) scHowMany.nd rfl (Or.inl rfl))
        (pss_one (ps_set (i:=1) scHowMany.nd rfl (Or.inl rfl) (pe_op op_mul (pv 1) (ixt (pv 0) pe_int)))))
      (pss_one (ps_ret (pv 1))))),?_⟩
    refine ⟨_,rfl,g,a,c,b,ps,ws,rfl,G,fun H1 s1=>?_⟩
    have G1:=G.keep s1
    refine ⟨_,rfl,_,_,_,_,rfl,rfl,SqT.of G1.tp,rfl,⟨c,_,rfl,.inl (SqL.of G1.hw),_,rfl,(by rw [List.length_map,ok.wl];lia),(by rw [List.length_map,ok.wl];lia),?_⟩⟩
    have en:((ws.map V.int).length:Int).toNat=ps.sum:=by rw [List.length_map,ok.wl];lia
    rw [en]
    refine for_range (n:=ps.sum) (fun i σ H2=>H2=H1∧∃ v,σ=[some (.ref g),some (.int ((b ^ i:Nat):Int)),v]) ⟨rfl,none,rfl⟩ ?_ ?_
    · rintro i σ H2 hi ⟨rfl,v,rfl⟩
      refine ⟨_,rfl,_,rfl,_,_,_,_,rfl,rfl,SqT.of G1.tp,rfl,⟨_,_,rfl,rfl,.inr ⟨by have:=ok.b16;lia,by have:=ok.b16;lia⟩,rfl,some (.int (0+(i:Int))),?_⟩⟩
      rw [Nat.pow_succ]
      push_cast
      rfl
    · rintro σ H2 ⟨rfl,v,rfl⟩
      exact ⟨_,rfl,k _ s1⟩
theorem scNeedNumber:FnScope ["frame","thing"] ["frame","thing"] (defScope sNeedNumber):=⟨rfl,rfl,rfl,by decide +kernel,rfl,by decide +kernel,by decide +kernel⟩
theorem ok_neednumber {f:Addr} {fd:FuncData} (F:Fun K "need_number" "need_number" sNeedNumber f fd) (D2:Def P w K mg base 2 "is_between" ["thing","least","greatest"] spBetw) (D6:Def P w K mg base 6 "how_many" ["frame"] spHowMany) :
    FnOk P w K mg base CX0 7 f fd ["frame","thing"] spNeedNumber:=by
  refine F.ok scNeedNumber (fun vs H Q E h=>?_) (fun cdv A outer s H vs Q E hr h=>?_)
  · obtain ⟨g,a,c,b,ps,ws,n,rfl,_⟩:=h;rfl
  · obtain ⟨g,a,c,b,ps,ws,n,rfl,G,hn,k⟩:=h
    refine ⟨_,pss_one (ps_if (pt_not (pt_val (pe_fn D2 (hr.mono (by decide)) (by rfl) (pa_cons (pv 1) (pa_cons pe_int (pa_cons (pe_op op_sub (pe_fn D6 hr (by rfl) (pa_cons (pv 0) pa_nil)) pe_int) pa_nil)))))) pss_never pss_nil),?_⟩
    refine ⟨_,rfl,_,rfl,g,a,c,b,ps,ws,rfl,G,fun H1 s1=>⟨_,_,rfl,rfl,.int n,0,_,rfl,.int _,_,rfl,?_⟩⟩
    have e:betw (.int (n:Int)) 0 (((b ^ ps.sum:Nat):Int) - 1)=true:=by
      simp only [betw,Bool.and_eq_true,decide_eq_true_eq]
      lia
    rw [e]
    exact iteF (k H1 s1)
theorem scFiguresOf:FnScope ["frame","n","figures","rest","place"] ["frame","n"] (defScope sFiguresOf):=⟨rfl,rfl,rfl,by decide +kernel,rfl,by decide +kernel,by decide +kernel⟩
theorem ok_figuresof {f:Addr} {fd:FuncData} (F:Fun K "figures_of" "figures_of" sFiguresOf f fd) (T:Txt mg) (D5:Def P w K mg base 5 "need_frame" ["thing"] spNeedFrame) (D7:Def P w K mg base 7 "need_number" ["frame","thing"] spNeedNumber) :
    FnOk P w K mg base CX0 8 f fd ["frame","n"] spFigures:=by
  refine F.ok scFiguresOf (fun vs H Q E h=>?_) (fun cdv A outer s H vs Q E hr h=>?_)
  · obtain ⟨g,a,c,b,ps,ws,n,rfl,_⟩:=h;rfl
  · obtain ⟨g,a,c,b,ps,ws,n,rfl,G,hn,k⟩:=h
    have ok:=G.ok
    have hsum:=ok.sum
    have b2:=ok.b2
    have b16:=ok.b16
    refine ⟨_,pss_cons (ps_expr (pe_fn D5 (hr.mono (by decide)) (by rfl) (pa_cons (pv 0) pa_nil)))
      (pss_cons (ps_expr (pe_fn D7 hr (by rfl) (pa_cons (pv 0) (pa_cons (pv 1) pa_nil))))
      (pss_cons (ps_set (i:=2) scFiguresOf.nd rfl (Or.inl rfl) (pe_lst pa_nil))
      (pss_cons (ps_set (i:=3) scFiguresOf.nd rfl (Or.inl rfl) (pv 1))
      (pss_cons (ps_for PassesOwn.never rfl (pi_range1 (by rfl) T.range (pa_cons (lenS T.len (by rfl) (ixt (pv 0) pe_int)) pa_nil)) (pg_name (i:=4) scFiguresOf.nd rfl (Or.inl rfl))
        (pss_cons (ps_expr (pe_bm PySem.F.plainAttrs_list PySem.F.slot_list_append PySem.F.type_list_append mt_append (pv 2) (pa_cons (pe_op op_mod (pv 3) (ixt (pv 0) pe_int)) pa_nil)))
        (pss_one (ps_set (i:=3) scFiguresOf.nd rfl (Or.inl rfl) (pe_op op_fdiv (pv 3) (ixt (pv 0) pe_int))))))
      (pss_one (ps_ret (pe_lrev rfl T.list T.rev (by rfl) (by rfl) (pv 2)))))))),?_⟩
    refine ⟨_,rfl,g,a,c,b,ps,ws,rfl,G,fun H1 s1=>?_⟩
    have G1:=G.keep s1
    refine ⟨_,rfl,_,rfl,g,a,c,b,ps,ws,n,rfl,G1,hn,fun H2 s2=>?_⟩
    have G2:=G1.keep s2
    refine ⟨sz (by decide),fun l hl=>?_⟩
    have s3:Same H2 (upd H2 l (.lst [])):=same_upd hl
    have G3:=G2.keep s3
    refine ⟨_,rfl,_,rfl,_,_,_,_,rfl,rfl,SqT.of G3.tp,rfl,⟨c,_,rfl,.inl (SqL.of G3.hw),_,rfl,(by rw [List.length_map,ok.wl];lia),(by rw [List.length_map,ok.wl];lia),?_⟩⟩
    have en:((ws.map V.int).length:Int).toNat=ps.sum:=by rw [List.length_map,ok.wl];lia
    rw [en]
    refine for_range (n:=ps.sum) (fun i σ H4=>∃ v,σ=[some (.ref g),some (.int n),some (.ref l),some (.int ((n / b ^ i:Nat):Int)),v]∧Same H2 H4∧H4 l=some (.lst (natV (Ma.ups b n i)))) ⟨none,(by rw [Nat.pow_zero,Nat.div_one];rfl),s3,upd_same⟩ ?_ ?_
    · rintro i σ H4 hi ⟨v,rfl,s4,h4⟩
      have G4:=G2.keep s4
      refine ⟨_,rfl,.inl ⟨rfl,_,SqL.of h4⟩,_,rfl,_,rfl,_,_,_,_,rfl,rfl,SqT.of G4.tp,rfl,⟨_,_,rfl,rfl,(by show (0:Int)<b;lia),l,_,_,rfl,rfl,h4,szl (by simp [natV,Ma.ups_len];lia),?_⟩⟩
      have s5:Same H2 (upd H4 l (.lst (natV (Ma.ups b n i)++[V.int (((n / b ^ i:Nat):Int) % (b:Int))]))):=same_upd2 s4 hl
      refine ⟨_,rfl,_,rfl,_,_,_,_,rfl,rfl,SqT.of (G2.keep s5).tp,rfl,⟨_,_,rfl,rfl,⟨by show (0:Int)<b;lia,by show (b:Int)<1073741824;lia⟩,some (.int (0+(i:Int))),?_,s5,?_⟩⟩
      · rw [← Ma.div_up]
        push_cast
        rfl
      · rw [upd_same,Ma.ups_succ]
        simp [natV]
    · rintro σ H4 ⟨v,rfl,s4,h4⟩
      refine ⟨_,rfl,l,_,rfl,SqL.of h4,fun r hr'=>?_⟩
      refine k r _ ?_ ((s1.trans s2).trans (same_upd2 s4 (s4.free hr'))) ?_
      · exact (s1.trans (s2.trans s4)).free hr'
      · rw [upd_same,← Ma.ups_rev]
        simp [natV]
end
end Hv
namespace Hv
open PySem L2
noncomputable abbrev RowsAt (H:Hp) (qs:List Addr) (rows:List (List Int)):Prop:=Paired (fun q row=>H q=some (.lst (row.map V.int))) qs rows
theorem RowsAt.keepOn {H H':Hp} {qs:List Addr} {rows:List (List Int)} (s:∀ b∈qs,∀ row:List Int,H b=some (.lst (row.map V.int))→H' b=some (.lst (row.map V.int))) (h:RowsAt H qs rows):RowsAt H' qs rows:=by
  induction h with
  | nil=>exact .nil
  | cons h _ ih=>exact .cons (s _ (by simp) _ h) (ih fun b hb=>s b (List.mem_cons_of_mem _ hb))
theorem rows_get {F:Addr→List Int→Prop} {qs:List Addr} {rows:List (List Int)} {i:Nat} {q:Addr} (h:Paired F qs rows) (e:qs[i]?=some q):∃ row,rows[i]?=some row∧F q row:=Paired.at h e
noncomputable def spCut:Sp:=fun vs H Q _=>∃ f a c b ps ws,∃ (r:Addr) (xs:List Int),vs=[.ref f,.ref r]∧FrAt H f a c b ps ws∧H r=some (.lst (xs.map V.int))∧
  ∀ p qs H',Same H H'→H' p=some (.lst (qs.map V.ref))→RowsAt H' qs (Ma.cuts ps xs)→Q (.ref p) H'
theorem cut_mid {xs:List V} {i k:Nat}:cutV xs (some (i:Int)) (some ((i:Int)+(k:Int)))=(xs.drop i).take k:=by
  have e:(i:Int)+(k:Int)=((i+k:Nat):Int):=by lia
  unfold cutV
  rw [e,HT.sIx_nat,HT.sIx_nat]
  rcases Nat.le_total i xs.length with h | h
  · rw [Nat.min_eq_left h]
    rcases Nat.le_total (i+k) xs.length with h2 | h2
    · rw [Nat.min_eq_left h2,Nat.add_sub_cancel_left]
    · rw [Nat.min_eq_right h2,List.take_of_length_le (by rw [List.length_drop];lia),List.take_of_length_le (by rw [List.length_drop];lia)]
  · rw [Nat.min_eq_right h,List.drop_of_length_le (Nat.le_refl _),List.drop_of_length_le h]
    simp
section
variable {P:Program} {w:World} {K:PySem.W.Frag} {mg:Str→Option Value} {base:Heap}
theorem scCut:FnScope ["frame","row","pieces","start","length"] ["frame","row"] (defScope sCut):=⟨rfl,rfl,rfl,by decide +kernel,rfl,by decide +kernel,by decide +kernel⟩
theorem ok_cut {f:Addr} {fd:FuncData} (F:Fun K "cut_by_parts" "cut_by_parts" sCut f fd):FnOk P w K mg base CX0 1 f fd ["frame","row"] spCut:=by
  refine F.ok scCut (fun vs H Q E h=>?_) (fun cdv A outer s H vs Q E hr h=>?_)
  · obtain ⟨g,a,c,b,ps,ws,r,xs,rfl,_⟩:=h;rfl
  · obtain ⟨g,a,c,b,ps,ws,r,xs,rfl,G,hrow,k⟩:=h
    have nd:=scCut.nd
    have l4:=G.ok.l4
    refine ⟨_,pss_cons (ps_set (i:=2) nd rfl (Or.inl rfl) (pe_lst pa_nil))
      (pss_cons (ps_set (i:=3) nd rfl (Or.inl rfl) pe_int)
      (pss_cons (ps_for PassesOwn.never rfl (pi_list (ixt (pv 0) pe_int)) (pg_name (i:=4) nd rfl (Or.inl rfl))
        (pss_cons (ps_expr (pe_bm PySem.F.plainAttrs_list PySem.F.slot_list_append PySem.F.type_list_append mt_append (pv 2) (pa_cons (pe_slice sl_list (pv 1) (po_some (pv 3)) (po_some (pe_op op_add (pv 3) (pv 4)))) pa_nil)))
        (pss_one (ps_set (i:=3) nd rfl (Or.inl rfl) (pe_op op_add (pv 3) (pv 4))))))
      (pss_one (ps_ret (pv 2))))),?_⟩
    refine ⟨sz (by decide),fun p hp=>?_⟩
    have s1:Same H (upd H p (.lst [])):=same_upd hp
    have G1:=G.keep s1
    refine ⟨_,rfl,_,_,_,_,rfl,rfl,SqT.of G1.tp,rfl,a,rfl,⟨_,SqL.of G1.hp⟩,for_list (K:=K) (a:=a) (xs:=natV ps) (fun i σ H2=>∃ (qs:List Addr) (v4:Option V),σ=[some (.ref g),some (.ref r),some (.ref p),some (.int (((ps.take i).sum:Nat):Int)),v4]∧
      Same H H2∧H2 p=some (.lst (qs.map V.ref))∧qs.length=i∧RowsAt H2 qs ((Ma.cuts ps xs).take i)) ⟨[],none,rfl,s1,upd_same,rfl,.nil⟩ (fun i σ H2 _ h=>by obtain ⟨_,_,_,s2,_⟩:=h;exact SqL.of (s2 _ _ G.hp)) ?_ ?_⟩
    · rintro i x σ H2 hx ⟨qs,v4,rfl,s2,hp2,hl2,rows⟩
      have hi:i<ps.length:=by
        have:=(List.getElem?_eq_some_iff.mp hx).1
        simpa [natV] using this
      have e:ps[i]?=some ps[i]:=by simp [hi]
      have ex:x=V.int ((ps[i]:Nat):Int):=by
        have:(natV ps)[i]?=some (V.int ((ps[i]:Nat):Int)):=by simp [natV,hi]
        rw [this] at hx
        exact (Option.some.inj hx).symm
      subst ex
      have pr:p≠r:=Ne.symm (ne_of_none hrow hp)
      refine ⟨_,rfl,.inl ⟨rfl,_,SqL.of hp2⟩,_,rfl,_,rfl,_,rfl,_,rfl,_,rfl,_,_,rfl,rfl,_,rfl,r,_,rfl,SqL.of (s2 _ _ hrow),fun q hq=>?_⟩
      have pq:p≠q:=ne_of_none hp2 hq
      refine ⟨p,_,_,rfl,rfl,(by rw [upd_ne pq];exact hp2),szl (by rw [List.length_map];lia),?_⟩
      refine ⟨_,rfl,_,rfl,_,_,rfl,rfl,qs++[q],some (.int ((ps[i]:Nat):Int)),?_,same_upd2 (same_upd2 s2 (s2.free hq)) hp,?_,by simp [hl2],?_⟩
      · rw [List.take_add_one,e,List.sum_append]
        show [some (V.ref g),some (.ref r),some (.ref p),some (.int (((ps.take i).sum:Nat)+((ps[i]:Nat):Int))),_]=_
        simp
      · rw [upd_same];simp
      · rw [List.take_add_one,Ma.cuts_get ps xs i ps[i] e]
        refine Paired.snoc (RowsAt.keepOn (H:=H2) (fun bb hb row z=>?_) rows) ?_
        · have bp:bb≠p:=ne_of z hp2 (by
            intro e
            have e':row.map V.int=qs.map V.ref:=by injection e
            have m1:V.ref bb∈row.map V.int:=by rw [e'];exact List.mem_map.mpr ⟨bb,hb,rfl⟩
            obtain ⟨_,_,m2⟩:=List.mem_map.mp m1
            cases m2)
          rw [upd_ne bp,upd_ne (ne_of_none z hq)]
          exact z
        · rw [upd_ne pq.symm,upd_same,cut_mid,← List.map_drop,← List.map_take]
    · rintro σ H2 ⟨qs,v4,rfl,s2,hp2,hl2,rows⟩
      refine ⟨_,rfl,k p qs H2 s2 hp2 ?_⟩
      have e:(natV ps).length=(Ma.cuts ps xs).length:=by rw [Ma.cuts_len];simp [natV]
      rw [e,List.take_length] at rows
      exact rows
end
end Hv
namespace Hv
open PySem L2
section
variable {P:Program} {w:World} {K:PySem.W.Frag} {mg:Str→Option Value} {base:Heap}
end
end Hv
namespace Hv
open PySem L2
noncomputable abbrev sumsOf (b n:Nat) (ps:List Nat) (ws:List Int):List Int:=Ma.psums ps (Ma.wts b n ps.sum ws)
section
variable {P:Program} {w:World} {K:PySem.W.Frag} {mg:Str→Option Value} {base:Heap}
end
end Hv
namespace L2
open PySem PySem.Spec PyProof.Rows
section
variable {X:Cx} {e st:Expr} {te ts:TE} {pos p2:Pos} {tg:Expr}
end
end L2
namespace Hv
open PySem L2
theorem iteAny {c A B:Prop} [Decidable c] (h1:A) (h2:B):if c then A else B:=ite2 (fun _=>h1) fun _=>h2
theorem if_tail {c A:Prop} [Decidable c] {nx:St→Hp→Prop} {σ:St} {H:Hp} (Good:St→Hp→Prop) (h:∀ σ H,Good σ H→nx σ H) (hA:(∀ σ H,Good σ H→nx σ H)→A) (hB:Good σ H):if c then A else nx σ H:=iteAny (hA h) (h _ _ hB)
theorem cut_to {xs:List V} {k:Nat}:cutV xs none (some (k:Int))=xs.take k:=by
  unfold cutV
  rw [HT.sIx_none,HT.sIx_nat,List.drop_zero,Nat.sub_zero]
  rcases Nat.le_total k xs.length with h | h
  · rw [Nat.min_eq_left h]
  · rw [Nat.min_eq_right h,List.take_of_length_le (Nat.le_refl _),List.take_of_length_le h]
theorem at_ints {ns:List Int} {i:Int} {Pr:Int→Prop} (h0:0≤i) (h1:i<ns.length) (h:∀ n∈ns,Pr n):∃ n,atI (ns.map V.int) i=some (.int n)∧Pr n:=by
  obtain ⟨v,e,n,rfl,hn⟩:=at_all (xs:=ns.map V.int) (Pr:=fun v=>∃ n,v=.int n∧Pr n) h0 (by rw [List.length_map];exact h1) (fun x hx=>by
    obtain ⟨n,hn,rfl⟩:=List.mem_map.mp hx
    exact ⟨n,rfl,h n hn⟩)
  exact ⟨n,e,hn⟩
theorem rep_nat {n x:Nat}:(List.replicate n [V.int (x:Int)]).flatten=natV (List.replicate n x):=by
  induction n with
  | zero=>rfl
  | succ n ih=>rw [List.replicate_succ,List.flatten_cons,ih,List.replicate_succ];rfl
theorem nats_sum {ps:List Nat} (h:∀ p∈ps,1≤p∧p≤6):∀ n∈ps.map fun (p:Nat)=>(p:Int),-1000000000≤n∧n≤1000000000:=fun n hn=>by
  obtain ⟨p,hp,rfl⟩:=List.mem_map.mp hn
  have:=h p hp
  lia
theorem b01 (k:Bool):CMul j (if k=true then 1 else 0):=.inr (by cases k <;> decide)
noncomputable def Store (H:Hp) (s:Addr):Prop:=∃ g c k:Int,H s=some (.lst [.int g,.int c,.int k])
theorem Store.keep {H H':Hp} {s:Addr} (h:Store H s) (t:Same H H'):Store H' s:=let ⟨g,c,k,e⟩:=h;⟨g,c,k,t _ _ e⟩
theorem Store.off {H:Hp} {s l:Addr} (h:Store H s) (e:H l=none):l≠s:=fun z=>by
  obtain ⟨g,c,k,q⟩:=h
  rw [z,q] at e;cases e
theorem Store.off1 {H:Hp} {s l:Addr} (h:Store H s) (e:H l=none):l∉[s]:=fun z=>h.off e (by simpa using z)
theorem Store.upd {H:Hp} {s l:Addr} {o:HO} (h:Store H s) (n:l≠s):Store (L2.upd H l o) s:=let ⟨g,c,k,e⟩:=h;⟨g,c,k,by rw [upd_ne n.symm];exact e⟩
noncomputable def spCell (K:PySem.W.Frag):Sp:=fun vs H Q _=>∃ (a:Addr) (ns:List Int) (k:Nat),vs=[.ref a,.int k]∧SqL K H a (ns.map V.int)∧k≤1000∧∀ c:Int,Q (.int c) H
noncomputable def spStore:Sp:=fun vs H Q _=>∃ c:Int,vs=[.int c]∧∀ s H',H s=none→Same H H'→Store H' s→Q (.ref s) H'
noncomputable def spTake:Sp:=fun vs H Q _=>∃ (s:Addr) (m:Int),vs=[.ref s,.int m]∧Store H s∧0<m∧m<1073741824∧∀ (r:Int) (H':Hp),0≤r→r<m→Store H' s→Kp [s] H H'→Q (.int r) H'
noncomputable def spFrame:Sp:=fun vs H Q _=>∃ (s:Addr) (L:Int),vs=[.ref s,.int L]∧Store H s∧1≤L∧L≤6∧
  ∀ f a c b ps ws H',Store H' s→Kp [s] H H'→FrAt H' f a c b ps ws→H f=none→H a=none→H c=none→Q (.ref f) H'
section
variable {P:Program} {w:World} {K:PySem.W.Frag} {mg:Str→Option Value} {base:Heap}
theorem scCell:FnScope ["script","k"] ["script","k"] (defScope sCell):=⟨rfl,rfl,rfl,by decide +kernel,rfl,by decide +kernel,by decide +kernel⟩
theorem ok_cell {f:Addr} {fd:FuncData} (F:Fun K "_law_cell" "_law_cell" sCell f fd) (T:Txt mg):FnOk P w K mg base CX0 1 f fd ["script","k"] (spCell K):=by
  refine F.ok scCell (fun vs H Q E h=>?_) (fun cdv A outer s H vs Q E hr h=>?_)
  · obtain ⟨a,ns,j,rfl,_⟩:=h;rfl
  · obtain ⟨a,ns,j,rfl,hS,hj,k⟩:=h
    refine ⟨_,pss_cons (ps_if (pt_cmpR op_lt (pv 1) (lenS T.len (by rfl) (pv 0)) (nomark _)) (pss_one (ps_ret (ixl (pv 0) (pv 1)))) pss_nil)
      (pss_one (ps_ret (pe_op op_add (pe_op op_add (pe_op op_mul (pe_op op_mul pe_int (pv 1)) (pv 1)) (pe_op op_mul pe_int (pv 1))) pe_int))),?_⟩
    refine ⟨_,rfl,_,rfl,a,_,rfl,.inl hS,_,_,rfl,rfl,_,rfl,ite2 (fun h=>?_) (fun _=>?_)⟩
    · have h':j<ns.length:=by
        have:=of_decide_eq_true h
        rw [List.length_map] at this
        lia
      exact ⟨_,rfl,_,rfl,a,_,_,_,rfl,rfl,hS,atI_nat (v:=V.int ns[j]) (by simp [h']),k _⟩
    · exact ⟨_,rfl,_,_,rfl,rfl,.inl ⟨by decide,by decide⟩,_,rfl,_,_,rfl,rfl,.inr ⟨by lia,by lia⟩,_,rfl,_,_,rfl,rfl,.inl ⟨by decide,by decide⟩,_,_,rfl,rfl,_,_,rfl,rfl,k _⟩
theorem scStore:FnScope ["cell","great"] ["cell"] (defScope sStore):=⟨rfl,rfl,rfl,by decide +kernel,rfl,by decide +kernel,by decide +kernel⟩
theorem ok_store {f:Addr} {fd:FuncData} (F:Fun K "_law_store" "_law_store" sStore f fd):FnOk P w K mg base CX0 1 f fd ["cell"] spStore:=by
  refine F.ok scStore (fun vs H Q E h=>?_) (fun cdv A outer s H vs Q E hr h=>?_)
  · obtain ⟨c,rfl,_⟩:=h;rfl
  · obtain ⟨c,rfl,k⟩:=h
    refine ⟨_,pss_cons (ps_set (i:=1) scStore.nd rfl (Or.inl rfl) pe_int)
      (pss_cons (ps_if (pt_cmpR op_ge (pv 0) (pe_op op_pow pe_int pe_int) (nomark _)) (pss_one (ps_set (i:=1) scStore.nd rfl (Or.inl rfl) (pv 0))) pss_nil)
      (pss_one (ps_ret (pe_lst (pa_cons (pv 1) (pa_cons (pe_op op_mod (pv 0) pe_int) (pa_cons pe_int pa_nil))))))),?_⟩
    refine ⟨_,rfl,_,_,rfl,rfl,⟨by decide,by decide,by decide⟩,_,_,rfl,rfl,_,rfl,?_⟩
    refine if_tail (fun σ H'=>H=H'∧∃ g:Int,σ=[some (.int c),some (.int g)]) ?_ (fun hT=>⟨_,rfl,hT _ _ ⟨rfl,_,rfl⟩⟩) ⟨rfl,_,rfl⟩
    rintro σ H' ⟨rfl,g,rfl⟩
    exact ⟨_,rfl,_,rfl,_,_,rfl,rfl,(by show (0:Int)<2147483629;decide),sz (by simp),fun l hl=>k l _ hl (same_upd hl) ⟨_,_,_,upd_same⟩⟩
theorem scTake:FnScope ["store","many","told","one"] ["store","many"] (defScope sTake):=⟨rfl,rfl,rfl,by decide +kernel,rfl,by decide +kernel,by decide +kernel⟩
theorem ok_take {f:Addr} {fd:FuncData} (F:Fun K "_law_take" "_law_take" sTake f fd):FnOk P w K mg base CX0 1 f fd ["store","many"] spTake:=by
  refine F.ok scTake (fun vs H Q E h=>?_) (fun cdv A outer s H vs Q E hr h=>?_)
  · obtain ⟨s,m,rfl,_⟩:=h;rfl
  · obtain ⟨q,m,rfl,⟨g,c,j,hc⟩,m0,m1,k⟩:=h
    have nd:=scTake.nd
    refine ⟨_,pss_cons (ps_if (pt_cmpR op_gt (ixl (pv 0) pe_int) pe_int (nomark _))
        (pss_cons (ps_set (i:=2) nd rfl (Or.inl rfl) (pe_op op_mod (ixl (pv 0) pe_int) (pv 1)))
        (pss_cons (ps_asg (pe_op op_fdiv (ixl (pv 0) pe_int) (pv 1)) (pg_sub (pv 0) pe_int set_list))
        (pss_one (ps_ret (pv 2))))) pss_nil)
      (pss_cons (ps_asg (pe_op op_add (ixl (pv 0) pe_int) pe_int) (pg_sub (pv 0) pe_int set_list))
      (pss_cons (ps_set (i:=3) nd rfl (Or.inl rfl) (pe_op op_mod (pe_op op_mul (pe_op op_add (ixl (pv 0) pe_int) (pe_op op_mul pe_int (ixl (pv 0) pe_int))) pe_int) pe_int))
      (pss_cons (ps_set (i:=3) nd rfl (Or.inl rfl) (pe_op op_mod (pe_op op_mul (pv 3) (pv 3)) pe_int))
      (pss_cons (ps_set (i:=3) nd rfl (Or.inl rfl) (pe_op op_mod (pe_op op_mul (pe_op op_add (pv 3) (pe_op op_mul pe_int (ixl (pv 0) pe_int))) pe_int) pe_int))
      (pss_one (ps_ret (pe_op op_mod (pe_op op_fdiv (pv 3) pe_int) (pv 1)))))))),?_⟩
    have fin:∀ (c' e' j':Int) (r:Int),0≤r→r<m→Q (.int r) (upd H q (.lst [.int c',.int e',.int j'])):=fun c' e' j' r r0 r1=>k r _ r0 r1 ⟨c',e',j',upd_same⟩ (kp_upd Kp.refl (.inl (by simp)))
    refine ⟨_,rfl,_,_,_,_,rfl,rfl,SqL.of hc,rfl,⟨_,_,rfl,rfl,_,rfl,iteAny ?way1 ?way2⟩⟩
    case way1 =>
      refine ⟨_,rfl,_,_,_,_,rfl,rfl,SqL.of hc,rfl,⟨_,rfl,_,_,rfl,rfl,m0,?_⟩⟩
      refine ⟨_,rfl,_,_,_,_,rfl,rfl,SqL.of hc,rfl,⟨_,rfl,_,_,rfl,rfl,⟨m0,m1⟩,_,rfl,q,_,_,_,rfl,rfl,hc,rfl,?_⟩⟩
      exact ⟨_,rfl,fin (g / m) c j (g % m) (Int.emod_nonneg _ (by lia)) (Int.emod_lt_of_pos _ m0)⟩
    case way2 =>
      refine ⟨_,rfl,_,_,_,_,rfl,rfl,SqL.of hc,rfl,⟨_,_,rfl,rfl,_,rfl,q,_,_,_,rfl,rfl,hc,rfl,?_⟩⟩
      refine ⟨_,rfl,_,_,_,_,rfl,rfl,SqL.of upd_same,rfl,⟨_,rfl,_,_,_,_,rfl,rfl,SqL.of upd_same,rfl,⟨_,_,rfl,rfl,.inl ⟨by decide,by decide⟩,_,_,rfl,rfl,_,_,rfl,rfl,.inr ⟨by decide,by decide⟩,_,_,rfl,rfl,(by show (0:Int)<2147483647;decide),?_⟩⟩⟩
      refine ⟨_,rfl,_,rfl,_,_,rfl,rfl,.inl ⟨by lia,by lia⟩,_,_,rfl,rfl,(by show (0:Int)<2147483629;decide),?_⟩
      refine ⟨_,rfl,_,rfl,_,_,_,_,rfl,rfl,SqL.of upd_same,rfl,⟨_,_,rfl,rfl,.inl ⟨by decide,by decide⟩,_,_,rfl,rfl,_,_,rfl,rfl,.inr ⟨by decide,by decide⟩,_,_,rfl,rfl,(by show (0:Int)<2147483587;decide),?_⟩⟩
      refine ⟨_,rfl,_,_,rfl,rfl,⟨by decide,by decide⟩,_,rfl,_,_,rfl,rfl,m0,?_⟩
      exact fin g c (j+1) _ (Int.emod_nonneg _ (by lia)) (Int.emod_lt_of_pos _ m0)
end
end Hv
namespace Hv
open PySem L2
section
variable {P:Program} {w:World} {K:PySem.W.Frag} {mg:Str→Option Value} {base:Heap}
theorem scFrame:FnScope ["store","longest","base","parts","way","one","weights","k","any_one","some"] ["store","longest"] (defScope sFrame):=⟨rfl,rfl,rfl,by decide +kernel,rfl,by decide +kernel,by decide +kernel⟩
theorem ok_frame {f:Addr} {fd:FuncData} (F:Fun K "_law_frame" "_law_frame" sFrame f fd) (T:Txt mg) (D1:Def P w K mg base 1 "_law_take" ["store","many"] spTake):FnOk P w K mg base CX0 2 f fd ["store","longest"] spFrame:=by
  refine F.ok scFrame (fun vs H Q E h=>?_) (fun cdv A outer s H vs Q E hr h=>?_)
  · obtain ⟨d,L,rfl,_⟩:=h;rfl
  · obtain ⟨d,L,rfl,D,L1,L6,k⟩:=h
    have nd:=scFrame.nd
    refine ⟨_,pss_cons (ps_set (i:=2) nd rfl (Or.inl rfl) (ixl (pe_lst (pa_cons pe_int (pa_cons pe_int (pa_cons pe_int (pa_cons pe_int (pa_cons (pe_op op_add pe_int (pe_fn D1 hr (by rfl) (pa_cons (pv 0) (pa_cons pe_int pa_nil)))) pa_nil)))))) (pe_fn D1 hr (by rfl) (pa_cons (pv 0) (pa_cons pe_int pa_nil)))))
      (pss_cons (ps_cmp1 (defScope sFrame) ["store","longest","base","parts","way","one","weights","k","any_one","some"] ["store","longest"] [0,1] (i:=3) nd rfl (Or.inl rfl) rfl
        (pi_range1 (by rfl) T.range (pa_cons (ixl (pe_lst (pa_cons pe_int (pa_cons pe_int (pa_cons pe_int (pa_cons pe_int pa_nil))))) (pe_fn D1 hr (by rfl) (pa_cons (pv 0) (pa_cons pe_int pa_nil)))) pa_nil))
        (fun cl C s H fp=>pf_nil) (fun cl C s H fp=>pe_op op_add pe_int (pe_fn D1 hr (by rfl) (pa_cons (pv 1) (pa_cons (pv 2) pa_nil)))) (by decide +kernel) (by rfl))
      (pss_cons (ps_if (pt_cmpR op_eq (pe_fn D1 hr (by rfl) (pa_cons (pv 0) (pa_cons pe_int pa_nil))) pe_int (nomark _)) (pss_one (ps_set (i:=3) nd rfl (Or.inl rfl) (pe_op op_rep (pe_slice sl_list (pv 3) po_none (po_some pe_int)) (lenS T.len (by rfl) (pv 3))))) pss_nil)
      (pss_cons (ps_set (i:=4) nd rfl (Or.inl rfl) (pe_fn D1 hr (by rfl) (pa_cons (pv 0) (pa_cons pe_int pa_nil))))
      (pss_cons (ps_set (i:=5) nd rfl (Or.inl rfl) (pe_op op_sub (pe_fn D1 hr (by rfl) (pa_cons (pv 0) (pa_cons pe_int pa_nil))) pe_int))
      (pss_cons (ps_set (i:=6) nd rfl (Or.inl rfl) (pe_lst pa_nil))
      (pss_cons (ps_for PassesOwn.never rfl (pi_range1 (by rfl) T.range (pa_cons (pe_callB (call_sumL rfl) (by rfl) T.sum boot_sum (pa_cons (pv 3) pa_nil)) pa_nil)) (pg_name (i:=7) nd rfl (Or.inl rfl))
        (pss_cons (ps_set (i:=8) nd rfl (Or.inl rfl) (pe_op op_sub (pe_fn D1 hr (by rfl) (pa_cons (pv 0) (pa_cons pe_int pa_nil))) pe_int))
        (pss_cons (ps_set (i:=9) nd rfl (Or.inl rfl) (pe_lst (pa_cons pe_int (pa_cons (pv 5) (pa_cons (pe_op op_mod (pv 8) pe_int) (pa_cons (pv 8)
            (pa_cons (pe_op op_mul (pv 8) (pe_callTy call_int1 (by rfl) T.int boot_int (pa_cons (pe_cmpR op_eq (pe_fn D1 hr (by rfl) (pa_cons (pv 0) (pa_cons pe_int pa_nil))) pe_int (nomark _)) pa_nil)))
            (pa_cons (pe_op op_add (pe_op op_mod (pv 7) (ixl (pv 3) pe_int)) pe_int) pa_nil))))))))
        (pss_one (ps_expr (pe_bm PySem.F.plainAttrs_list PySem.F.slot_list_append PySem.F.type_list_append mt_append (pv 6) (pa_cons (ixl (pv 9) (pv 4)) pa_nil)))))))
      (pss_one (ps_ret (pe_tup (pa_cons (pv 2) (pa_cons (pv 3) (pa_cons (pv 6) pa_nil)))))))))))),?_⟩
    -- base
    refine ⟨_,rfl,d,15,rfl,D,by decide,by decide,fun r1 H1 a1 b1 E1 k1=>⟨_,_,rfl,rfl,sz (by simp),fun l1 hl1=>?_⟩⟩
    refine ⟨_,rfl,d,5,rfl,E1.keep (same_upd hl1),by decide,by decide,fun r2 H2 a2 b2 E2 k2=>?_⟩
    obtain ⟨bi,eb,hb⟩:=at_ints (ns:=[2,3,10,16,2+r1]) (Pr:=fun n=>2≤n∧n≤16) a2 b2 (by simp;lia)
    obtain ⟨b,rfl⟩:∃ b:Nat,bi=b:=⟨bi.toNat,by lia⟩
    refine r_ixl (k2 l1 _ upd_same (E1.off1 hl1)) eb ?_
    have K2:Kp [d] H H2:=k1.trans ((Kp.of (same_upd hl1)).trans k2)
    -- parts
    refine ⟨sz (by simp),fun l3 hl3=>⟨_,rfl,d,4,rfl,E2.keep (same_upd hl3),by decide,by decide,fun r5 H5 a5 b5 E5 k5=>?_⟩⟩
    obtain ⟨np,en,hnp⟩:=at_ints (ns:=[2,2,3,4]) (Pr:=fun n=>2≤n∧n≤4) a5 b5 (by simp)
    have K5:Kp [d] H H5:=K2.trans ((Kp.of (same_upd hl3)).trans k5)
    refine r_ixl (k5 l3 _ upd_same (E2.off1 hl3)) en ⟨_,rfl,by lia,by lia,comp_range (lo:=0) (n:=np.toNat) (fun i ys H6=>∃ ps:List Nat,ys=natV ps∧ps.length=i∧(∀ x∈ps,1≤x∧x≤6)∧Store H6 d∧Kp [d] H H6)
      ⟨[],rfl,rfl,fun x hx=>by simp at hx,E5,K5⟩ ?_ ?_⟩
    · rintro i ys H6 hi ⟨ps,rfl,hl,hp,E6,K6⟩
      refine ⟨szl (by simp [natV];lia),?_⟩
      refine ⟨_,rfl,_,rfl,d,L,rfl,E6,by lia,by lia,fun r H7 a7 b7 E7 k7=>⟨_,_,rfl,rfl,ps++[(1+r).toNat],?_,by simp [hl],fun x hx=>?_,E7,K6.trans k7⟩⟩
      · have e:(((1+r).toNat:Nat):Int)=1+r:=by lia
        simp [natV]
        lia
      · rcases List.mem_append.mp hx with hx | hx
        · exact hp x hx
        · have:x=(1+r).toNat:=by simpa using hx
          lia
    rintro ys H6 ⟨ps,rfl,hl,hp,E6,K6⟩ a ha
    have hna:a∉[d]:=E6.off1 ha
    refine ⟨_,rfl,d,3,rfl,E6.keep (same_upd ha),by decide,by decide,fun r6 H7 a6 b6 E7 k7=>⟨rfl,_,rfl,?_⟩⟩
    have K7:Kp [d] H H7:=K6.trans ((Kp.of (same_upd ha)).trans k7)
    have h7:H7 a=some (.lst (natV ps)):=k7 a _ upd_same hna
    refine if_tail (fun σ H'=>∃ (a':Addr) (ps':List Nat),σ=[some (.ref d),some (.int L),some (.int b),some (.ref a'),none,none,none,none,none,none]∧Store H' d∧Kp [d] H H'∧H' a'=some (.lst (natV ps'))∧a'∉[d]∧
      H a'=none∧2≤ps'.length∧ps'.length≤4∧∀ x∈ps',1≤x∧x≤6) ?tail (fun hT=>?thn) ⟨a,ps,rfl,E7,K7,h7,hna,K6.free ha hna,by lia,by lia,hp⟩
    case thn =>
      refine ⟨_,rfl,_,rfl,a,_,rfl,SqL.of h7,fun l5 hl5=>?_⟩
      have s5:Same H7 (upd H7 l5 (.lst (cutV (natV ps) none (some 1)))):=same_upd hl5
      obtain ⟨x0,rr,ee⟩:∃ x0 rr,ps=x0::rr:=by
        cases ps with
        | nil=>simp at hl;lia
        | cons x0 rr=>exact ⟨x0,rr,rfl⟩
      have ec:cutV (natV ps) none (some 1)=[V.int (x0:Int)]:=by
        rw [show (1:Int)=((1:Nat):Int) from rfl,cut_to,ee]
        rfl
      refine ⟨_,rfl,a,_,rfl,.inl (SqL.of (s5 _ _ h7)),l5,_,_,rfl,rfl,upd_same,by lia,?_,?_,fun l6 hl6=>hT _ _ ⟨l6,List.replicate ps.length x0,rfl,?_,?_,?_,?_,K7.free (s5.free hl6) ((E7.keep s5).off1 hl6),by simp;lia,by simp;lia,fun x hx=>?_⟩⟩
      · simp [natV];lia
      · rw [ec];exact sz (by simp [natV];lia)
      · exact (E7.keep s5).keep (same_upd hl6)
      · exact K7.same (s5.trans (same_upd hl6))
      · rw [upd_same,ec]
        simp only [natV,List.length_map,Int.toNat_natCast]
        rw [rep_nat]
      · exact (E7.keep s5).off1 hl6
      · have:=List.eq_of_mem_replicate hx
        rw [this]
        exact hp x0 (by rw [ee];simp)
    case tail =>
      rintro σ H8 ⟨a',ps',rfl,E8,K8,h8,n8,f8,l2',l4',pr'⟩
      have hsum:=Ma.sum_le6 ps' pr'
      obtain ⟨p0,pr,ep⟩:∃ x0 rr,ps'=x0::rr:=by
        cases ps' with
        | nil=>simp at l2'
        | cons x0 rr=>exact ⟨x0,rr,rfl⟩
      have hp0:=pr' p0 (by rw [ep];simp)
      have eat:atI (natV ps') 0=some (.int (p0:Int)):=by rw [ep];exact atI_nat (j:=0) (by simp [natV])
      refine ⟨_,rfl,d,6,rfl,E8,by decide,by decide,fun wv H9 w0 w1 E9 k9=>⟨_,rfl,d,19,rfl,E9,by decide,by decide,fun ov H9b o0 o1 E9b k9b=>⟨_,_,rfl,rfl,sz (by decide),fun l hl=>?_⟩⟩⟩
      have h9:H9b a'=some (.lst (natV ps')):=k9b a' _ (k9 a' _ h8 n8) n8
      have s9:Same H9b (upd H9b l (.lst [])):=same_upd hl
      have nl:l∉[d]:=E9b.off1 hl
      have nld:l≠d:=E9b.off hl
      have al:a'≠l:=ne_of_none h9 hl
      have K9:Kp [d] H H9b:=(K8.trans k9).trans k9b
      refine ⟨_,rfl,a',ps'.map fun (p:Nat)=>(p:Int),rfl,SqL.of (by rw [← natV_eq];exact s9 _ _ h9),⟨by rw [List.length_map];lia,nats_sum pr'⟩,_,rfl,?_⟩
      rw [Ma.sum_cast]
      refine ⟨by lia,by lia,?_⟩
      have en':(((ps'.sum:Nat):Int)).toNat=ps'.sum:=by lia
      rw [en']
      refine for_range (n:=ps'.sum) (fun i σ H6=>∃ (ws:List Int) (v7 v8 v9:Option V),σ=[some (.ref d),some (.int L),some (.int b),some (.ref a'),some (.int wv),some (.int (ov - 9)),some (.ref l),v7,v8,v9]∧Store H6 d∧Kp [d] H H6∧H6 a'=some (.lst (natV ps'))∧
        H6 l=some (.lst (ws.map V.int))∧ws.length=i∧∀ x∈ws,-9≤x∧x≤9) ⟨[],none,none,none,rfl,E9b.keep s9,K9.same s9,s9 _ _ h9,upd_same,rfl,fun x hx=>by simp at hx⟩ ?_ ?_
      · rintro i σ H10 hi ⟨ws,v7,v8,v9,rfl,E10,K10,h10,hl10,hw10,hr10⟩
        refine ⟨_,rfl,d,19,rfl,E10,by decide,by decide,fun av G1 x1 y1 F1 j1=>⟨_,_,rfl,rfl,?_⟩⟩
        refine ⟨_,rfl,_,rfl,_,_,rfl,rfl,(by show (0:Int)<3;decide),_,rfl,_,rfl,_,rfl,d,4,rfl,F1,by decide,by decide,fun r3 G3 x3 y3 F3 j3=>?_⟩
        have J3:Kp [d] H10 G3:=j1.trans j3
        have la:G3 a'=some (.lst (natV ps')):=J3 a' _ h10 n8
        have ll:G3 l=some (.lst (ws.map V.int)):=J3 l _ hl10 nl
        refine ⟨rfl,.inr ⟨_,rfl,_,_,rfl,rfl,b01 _,?_⟩⟩
        refine ⟨_,rfl,_,rfl,_,_,_,_,rfl,rfl,SqL.of la,eat,⟨_,_,rfl,rfl,(by show (0:Int)<p0;lia),_,_,rfl,rfl,sz (by simp),fun m hm=>?_⟩⟩
        have nm:m≠d:=F3.off hm
        have q1:=Int.emod_nonneg (0+(i:Int)) (show (p0:Int)≠0 by lia)
        have q2:=Int.emod_lt_of_pos (0+(i:Int)) (show (0:Int)<p0 by lia)
        have q3:=Int.emod_nonneg (av - 9) (show (3:Int)≠0 by decide)
        have q4:=Int.emod_lt_of_pos (av - 9) (show (0:Int)<3 by decide)
        obtain ⟨x,ev,hx⟩:=at_ints (ns:=[1,ov - 9,(av - 9) % 3,av - 9,(av - 9)*(if (decide (V.int r3=V.int 0))=true then 1 else 0),(0+(i:Int)) % (p0:Int)+1]) (i:=wv) (Pr:=fun n => -9≤n∧n≤9) w0 w1 (by
          intro n hn
          simp only [List.mem_cons,List.not_mem_nil,or_false] at hn
          rcases hn with rfl | rfl | rfl | rfl | rfl | rfl
          · decide
          · lia
          · lia
          · lia
          · split <;> lia
          · lia)
        refine ⟨_,rfl,.inl ⟨rfl,_,SqL.of ((same_upd hm) _ _ ll)⟩,_,rfl,_,rfl,_,_,_,_,rfl,rfl,SqL.of upd_same,ev,⟨l,_,_,rfl,rfl,(same_upd hm) _ _ ll,szl (by rw [List.length_map];lia),ws++[x],_,_,_,rfl,?_,?_,?_,?_,by simp [hw10],fun y hy=>?_⟩⟩
        · exact (F3.keep (same_upd hm)).upd nld
        · exact kp_upd ((K10.trans J3).same (same_upd hm)) (.inr (K9.free hl nl))
        · rw [upd_ne al];exact (same_upd hm) _ _ la
        · rw [upd_same];simp
        · rcases List.mem_append.mp hy with hy | hy
          · exact hr10 y hy
          · have:y=x:=by simpa using hy
            rw [this];exact hx
      · rintro σ H6 ⟨ws,v7,v8,v9,rfl,E10,K10,h10,hl10,hw10,hr10⟩
        refine ⟨_,rfl,_,rfl,_,rfl,sz (by simp),fun f' hf'=>?_⟩
        have sf:Same H6 (upd H6 f' (.tup [.int b,.ref a',.ref l])):=same_upd hf'
        exact k f' a' l b ps' ws _ (E10.keep sf) (K10.same sf) ⟨upd_same,sf _ _ h10,sf _ _ hl10,⟨by lia,by lia,l2',l4',pr',hw10,hr10⟩⟩ (K10.free hf' (E10.off1 hf')) f8 (K9.free hl nl)
end
end Hv
namespace Hv
open PySem L2
section
variable {P:Program} {w:World} {K:PySem.W.Frag} {mg:Str→Option Value} {base:Heap}
end
end Hv
namespace Hv
open PySem L2
theorem boot_dict:bootBuiltins "dict"=some (.type "dict"):=PyProof.Rows.boot_dict
theorem boot_sorted:bootBuiltins "sorted"=some (.builtin "sorted"):=PyProof.Rows.boot_sorted
theorem ints_at {f:List (Int×Int)} {i:Nat} {k:Key} {v:V} (h:(intsD f)[i]?=some (k,v)):∃ p:Int×Int,f[i]?=some p∧k=Sum.inl p.1∧v=.int p.2:=by
  rw [intsD,List.getElem?_map] at h
  cases e:f[i]? with
  | none=>rw [e] at h;cases h
  | some p =>
    rw [e] at h
    have z:=Option.some.inj h
    exact ⟨p,rfl,(congrArg Prod.fst z).symm,(congrArg Prod.snd z).symm⟩
theorem dget_ints {H:Hp} {a:Addr} {f:List (Int×Int)} {k:Int} (h:Rd H a (.dK (intsD f))):DGet H a (.int k) ((Me.look f k).map V.int):=.inl ⟨intsD f,Sum.inl k,h,rfl,(valV_ints f k).symm⟩
theorem getD_int (o:Option Int):(o.map V.int).getD (.int 0)=.int (o.getD 0):=by cases o <;> rfl
theorem dput_ints {H:Hp} {a:Addr} {f:List (Int×Int)} {k v:Int} (h:H a=some (.dK (intsD f))) (hl:f.length≤100000):DPut H a (.int k) (.int v) (upd H a (.dK (intsD (Me.put f k v)))):=by
  rw [← put_ints]
  exact DPut.k (k:=Sum.inl k) h (szl (by rw [intsD,List.length_map];lia))
noncomputable def spOneMore:Sp:=fun vs H Q _=>∃ (a:Addr) (f:List (Int×Int)) (b:Nat) (w:Int) (m:Nat),vs=[.ref a,.int b,.int w]∧H a=some (.dK (intsD f))∧Me.Ok f m∧m≤1000∧b≤16∧(-9≤w∧w≤9)∧
  ∀ p H',H p=none→Same H H'→H' p=some (.dK (intsD (Me.oneMore f b w)))→Q (.ref p) H'
section
variable {P:Program} {w:World} {K:PySem.W.Frag} {mg:Str→Option Value} {base:Heap}
theorem scOneMore:FnScope ["ways","base","weight","longer","total","figure","reached"] ["ways","base","weight"] (defScope sOneMore):=⟨rfl,rfl,rfl,by decide +kernel,rfl,by decide +kernel,by decide +kernel⟩
theorem ok_onemore {f:Addr} {fd:FuncData} (F:Fun K "with_one_more_figure" "with_one_more_figure" sOneMore f fd) (T:Txt mg):FnOk P w K mg base CX0 1 f fd ["ways","base","weight"] spOneMore:=by
  refine F.ok scOneMore (fun vs H Q E h=>?_) (fun cdv A outer s H vs Q E hr h=>?_)
  · obtain ⟨a,f,b,wt,m,rfl,_⟩:=h;rfl
  · obtain ⟨a,f,b,wt,m,rfl,ha,ok,hm,hb,hw,k⟩:=h
    have nd:=scOneMore.nd
    have hu:=hu_of hr
    refine ⟨_,pss_cons (ps_set (i:=3) nd rfl (Or.inl rfl) pe_dnewK)
      (pss_cons (ps_for PassesOwn.never rfl (pi_dict (pv 0)) (pg_name (i:=4) nd rfl (Or.inl rfl))
        (pss_one (ps_for PassesOwn.never rfl (pi_range1 (by rfl) T.range (pa_cons (pv 1) pa_nil)) (pg_name (i:=5) nd rfl (Or.inl rfl))
          (pss_cons (ps_set (i:=6) nd rfl (Or.inl rfl) (pe_op op_add (pv 4) (pe_op op_mul (pv 5) (pv 2))))
          (pss_one (ps_dput hu (pv 3) (pv 6) (pe_op op_add (pe_dget2 hu (pv 3) (pv 6) pe_int ⟨rfl,rfl,rfl,rfl⟩) (pe_dget hu (pv 0) (pv 4) (fun _ _=>rfl))) rfl))))))
      (pss_thaw (pss_one (ps_ret (pv 3))))),?_⟩
    intro l hl
    have nal:a≠l:=ne_of_none ha hl
    refine ⟨_,rfl,a,intsD f,rfl,(by rw [upd_ne nal];exact ha),fun o=>for_dict (fun i σ H2=>∃ v4 v5 v6,σ=[some (.ref a),some (.int b),some (.int wt),some (.ref l),v4,v5,v6]∧H2 a=some (.frz o (.dK (intsD f)))∧Kp [a] H H2∧H2 l=some (.dK (intsD (Me.oneMore (f.take i) b wt))))
      ⟨none,none,none,rfl,upd_same,kp_upd (kp_upd Kp.refl (.inr hl)) (.inl (by simp)),?_⟩ (fun i σ H2 _ h=>by obtain ⟨_,_,_,_,z,_⟩:=h;exact z) ?_ ?_⟩
    · rw [upd_ne nal.symm,upd_same];rfl
    · rintro i kk v σ H2 hk ⟨v4,v5,v6,rfl,fa,kp,hl2⟩
      obtain ⟨p,hp,rfl,rfl⟩:=ints_at hk
      have pm:=List.mem_of_getElem? hp
      have pb:=ok.bd p.1 (List.mem_map.mpr ⟨p,pm,rfl⟩)
      have o0:=Me.oneMore_ok ok hw hb i
      refine ⟨_,rfl,_,rfl,by lia,by lia,for_range (n:=(b:Int).toNat) (fun d σ H3=>∃ v5 v6,σ=[some (.ref a),some (.int b),some (.int wt),some (.ref l),some (.int p.1),v5,v6]∧H3 a=some (.frz o (.dK (intsD f)))∧Kp [a] H H3∧H3 l=some (.dK (intsD (Me.figs p wt d (Me.oneMore (f.take i) b wt)))))
        ⟨v5,v6,rfl,fa,kp,hl2⟩ ?_ ?_⟩
      · rintro d σ H3 hd ⟨v5,v6,rfl,fa3,kp3,hl3⟩
        have hd':d<b:=by lia
        have od:=Me.figs_ok pb hw hb o0 d (by lia)
        have hlen:=Me.Ok.len (m:=m+135) (by push_cast;exact od)
        refine ⟨_,rfl,_,rfl,_,rfl,_,_,rfl,rfl,.inr ⟨by lia,by lia⟩,_,_,rfl,rfl,?_⟩
        refine ⟨_,rfl,l,rfl,.inl ⟨_,.inl hl3⟩,_,rfl,_,dget_ints (.inl hl3),_,rfl,_,rfl,a,.int p.2,rfl,?_,_,_,getD_int _,rfl,_,rfl,_,rfl,l,_,rfl,dput_ints hl3 (by lia),?_⟩
        · have z:=dget_ints (k:=p.1) (.inr ⟨o,fa3⟩)
          rw [Me.look_mem ok.nd pm] at z
          exact z
        · refine ⟨_,_,rfl,?_,kp_upd kp3 (.inr hl),?_⟩
          · rw [upd_ne nal];exact fa3
          · rw [upd_same,Me.figs_succ]
            have e0:(0:Int)+(d:Int)=(d:Int):=Int.zero_add _
            rw [e0]
            rfl
      · rintro σ H3 ⟨v5,v6,rfl,fa3,kp3,hl3⟩
        refine ⟨_,_,_,rfl,fa3,kp3,?_⟩
        have eb:(b:Int).toNat=b:=by lia
        rw [eb] at hl3
        rw [Me.oneMore_take hp]
        exact hl3
    · rintro σ H2 ⟨v4,v5,v6,rfl,fa,kp,hl2⟩
      have el:(intsD f).length=f.length:=by rw [intsD,List.length_map]
      rw [el,List.take_length] at hl2
      refine ⟨a,o,intsD f,fa,(fun o' u z=>by
        have z':H a=some (.frz o' u):=z
        rw [ha] at z';cases z'),_,rfl,k l _ hl (fun x ob e=>?_) (by rw [upd_ne nal.symm];exact hl2)⟩
      by_cases hx:x=a
      · rw [hx,upd_same,← ha,← hx];exact e
      · rw [upd_ne hx];exact kp x ob e (by simpa using hx)
end
end Hv
namespace Hv
open PySem L2
theorem pairs_keep {H H':Hp} (s:Same H H') {ts:List Addr} {kvs:List (Key×V)} (h:PairsAt H ts kvs):PairsAt H' ts kvs:=Paired.mapP h fun _ _ e=>s _ _ e
theorem pairs_snoc {H:Hp} {t:Addr} {p:Key×V} (h:H t=some (.tup [kV p.1,p.2])) {ts:List Addr} {kvs:List (Key×V)} (q:PairsAt H ts kvs):PairsAt H (ts++[t]) (kvs++[p]):=by
  induction q with
  | nil=>exact .cons h .nil
  | cons h0 _ ih=>exact .cons h0 ih
noncomputable def spWaysW:Sp:=fun vs H Q _=>∃ (b:Nat) (r:Addr) (ws:List Int),vs=[.int b,.ref r]∧H r=some (.lst (ws.map V.int))∧b≤16∧(∀ x∈ws,-9≤x∧x≤9)∧ws.length≤6∧
  ∀ p H' g,H p=none→Same H H'→H' p=some (.dK (intsD g))→g.Perm (Me.waysW b ws)→Q (.ref p) H'
theorem waysOk {b i:Nat} {ws:List Int} (hw:∀ x∈ws,-9≤x∧x≤9) (hb:b≤16):Me.Ok (Me.waysW b (ws.take i)) ((135*i:Nat):Int):=by
  have h:=Me.ways_ok hw hb i
  push_cast
  exact h
section
variable {P:Program} {w:World} {K:PySem.W.Frag} {mg:Str→Option Value} {base:Heap}
theorem scWaysW:FnScope ["base","weights","ways","weight"] ["base","weights"] (defScope sWaysW):=⟨rfl,rfl,rfl,by decide +kernel,rfl,by decide +kernel,by decide +kernel⟩
theorem ok_waysw {f:Addr} {fd:FuncData} (F:Fun K "ways_of_weights" "ways_of_weights" sWaysW f fd) (T:Txt mg) (ndict:mg "dict"=none) (nsorted:mg "sorted"=none) (DO:Def P w K mg base 1 "with_one_more_figure" ["ways","base","weight"] spOneMore) :
    FnOk P w K mg base CX0 2 f fd ["base","weights"] spWaysW:=by
  refine F.ok scWaysW (fun vs H Q E h=>?_) (fun cdv A outer s H vs Q E hr h=>?_)
  · obtain ⟨b,r,ws,rfl,_⟩:=h;rfl
  · obtain ⟨b,r,ws,rfl,hrow,hb,hw,hlen,k⟩:=h
    have nd:=scWaysW.nd
    have hu:=hu_of hr
    refine ⟨_,pss_cons (ps_set (i:=2) nd rfl (Or.inr rfl) (pe_disp (pps_cons pe_int pe_int pps_nil) rfl rfl (by simp) (by decide)))
      (pss_cons (ps_for PassesOwn.never rfl (pi_list (pv 1)) (pg_name (i:=3) nd rfl (Or.inl rfl)) (pss_one (ps_set (i:=2) nd rfl (Or.inr rfl) (pe_fn DO hr (by rfl) (pa_cons (pv 2) (pa_cons (pv 0) (pa_cons (pv 3) pa_nil)))))))
      (pss_one (ps_ret (pe_callTy (call_dictP rfl) (by rfl) ndict boot_dict (pa_cons (pe_cmp1 (defScope sWaysW) ["base","weights","ways","weight"] ["ways"] [2] rfl (pi_list (pe_callB (call_sortedD rfl) (by rfl) nsorted boot_sorted (pa_cons (pv 2) pa_nil)))
        (fun cl C s H fp=>pf_nil) (fun cl C s H fp=>pe_tup (pa_cons (pv 0) (pa_cons (pe_dget hu (pv 1) (pv 0) (fun _ _=>rfl)) pa_nil))) (by decide +kernel)) pa_nil))))),?_⟩
    intro p0 hp0
    refine ⟨upd_same,[(Sum.inl 0,.int 1)],rfl,by decide,?_⟩
    have s0:Same H (upd (upd H p0 (.dK [])) p0 (.dK (mergeK [] [(Sum.inl 0,V.int 1)]))):=same_upd2 (same_upd hp0) hp0
    have u0:(upd (upd H p0 (.dK [])) p0 (.dK (mergeK [] [(Sum.inl 0,V.int 1)]))) p0=some (.dK (intsD [(0,1)])):=upd_same
    generalize upd (upd H p0 (.dK [])) p0 (.dK (mergeK [] [(Sum.inl 0,V.int 1)]))=H0 at s0 u0⊢
    refine ⟨_,rfl,r,rfl,⟨_,SqL.of (s0 _ _ hrow)⟩,for_list (K:=K) (a:=r) (xs:=ws.map V.int) (fun i σ H2=>∃ p v3,σ=[some (.int b),some (.ref r),some (.ref p),v3]∧Same H H2∧H p=none∧H2 p=some (.dK (intsD (Me.waysW b (ws.take i)))))
      ⟨p0,none,rfl,s0,hp0,u0⟩ (fun i σ H2 _ h=>by obtain ⟨_,_,_,s2,_⟩:=h;exact SqL.of (s2 _ _ hrow)) ?_ ?_⟩
    · rintro i x σ H2 hx ⟨p,v3,rfl,s2,np,hp⟩
      have hil:i<ws.length:=by have:=(List.getElem?_eq_some_iff.mp hx).1;simpa using this
      obtain ⟨y,hy,rfl⟩:∃ y:Int,ws[i]?=some y∧x=.int y:=by
        rw [List.getElem?_map] at hx
        cases e:ws[i]? with
        | none=>rw [e] at hx;cases hx
        | some d=>rw [e] at hx;exact ⟨d,rfl,(Option.some.inj hx).symm⟩
      refine ⟨_,rfl,_,rfl,_,rfl,p,_,b,y,135*i,rfl,hp,waysOk hw hb,by lia,hb,hw y (List.mem_of_getElem? hy),fun p' H3 np' s3 hp3=>⟨p',_,rfl,s2.trans s3,s2.free np',?_⟩⟩
      rw [Me.waysW_take hy]
      exact hp3
    rintro σ H2 ⟨p,v3,rfl,s2,np,hp⟩
    have oW:Me.Ok (Me.waysW b ws) ((135*ws.length:Nat):Int):=by
      have:=waysOk (i:=ws.length) hw hb
      rwa [List.take_length] at this
    rw [List.length_map,List.take_length] at hp
    have hWl:=oW.len
    generalize Me.waysW b ws=W at hp oW hWl k
    refine ⟨_,rfl,p,intsD W,Me.keys W,rfl,.inl hp,by simp [intsD,Me.keys],fun l ns' hl hperm=>?_⟩
    have s3:=same_upd (o:=.lst (ns'.map V.int)) hl
    have u3:(upd H2 l (.lst (ns'.map V.int))) l=some (.lst (ns'.map V.int)):=upd_same
    generalize upd H2 l (.lst (ns'.map V.int))=H3 at s3 u3⊢
    have hp3:=s3 _ _ hp
    have hnl:ns'.length=W.length:=by rw [hperm.length_eq];simp [Me.keys]
    refine ⟨l,rfl,⟨_,SqL.of u3⟩,comp_list (K:=K) (a:=l) (xs:=ns'.map V.int) (fun i ys H'=>∃ ts,ys=ts.map V.ref∧ts.length=i∧Same H3 H'∧PairsAt H' ts (intsD ((ns'.take i).map fun n=>(n,(Me.look W n).getD 0))))
      ⟨[],rfl,rfl,Same.refl _,.nil⟩ (fun i ys H' _ h=>by obtain ⟨_,_,_,s',_⟩:=h;exact SqL.of (s' _ _ u3)) ?_ ?_⟩
    · rintro i x ys H' hx ⟨ts,rfl,htl,s',pa⟩
      have hil:i<ns'.length:=by have:=(List.getElem?_eq_some_iff.mp hx).1;simpa using this
      obtain ⟨n,hn,rfl⟩:∃ n:Int,ns'[i]?=some n∧x=.int n:=by
        rw [List.getElem?_map] at hx
        cases e:ns'[i]? with
        | none=>rw [e] at hx;cases hx
        | some d=>rw [e] at hx;exact ⟨d,rfl,(Option.some.inj hx).symm⟩
      obtain ⟨q,hq,eq⟩:=List.mem_map.mp (hperm.mem_iff.mp (List.mem_of_getElem? hn))
      have hlk:Me.look W n=some q.2:=by rw [← eq];exact Me.look_mem oW.nd hq
      refine ⟨szl (by rw [List.length_map];lia),_,rfl,_,rfl,_,rfl,p,.int q.2,rfl,?_,sz (by simp),fun t ht=>⟨ts++[t],by simp,by simp [htl],s'.trans (same_upd ht),?_⟩⟩
      · have z:=dget_ints (k:=n) (.inl (s' _ _ hp3))
        rw [hlk] at z
        exact z
      · rw [List.take_add_one,hn]
        have e2:intsD ((ns'.take i++(some n).toList).map fun n=>(n,(Me.look W n).getD 0))=intsD ((ns'.take i).map fun n=>(n,(Me.look W n).getD 0))++[(Sum.inl n,V.int q.2)]:=by
          simp [intsD,hlk]
        rw [e2]
        exact pairs_snoc (p:=(Sum.inl n,V.int q.2)) upd_same (pairs_keep (same_upd ht) pa)
    rintro ys H' ⟨ts,rfl,htl,s',pa⟩ l2 hl2
    rw [List.length_map,List.take_length] at pa
    have hg:=Me.pairs_perm oW.nd hperm
    have gnd:(Me.keys (ns'.map fun n=>(n,(Me.look W n).getD 0))).Nodup:=(hg.map Prod.fst).nodup_iff.mpr oW.nd
    refine ⟨l2,ts,_,rfl,upd_same,pairs_keep (same_upd hl2) pa,fun q hq=>?_⟩
    have em:mergeK [] (intsD (ns'.map fun n=>(n,(Me.look W n).getD 0)))=intsD (ns'.map fun n=>(n,(Me.look W n).getD 0)):=by
      have z:=merge_ints (ns'.map fun n=>(n,(Me.look W n).getD 0)) []
      rw [Me.merge_new _ [] (by simpa using gnd)] at z
      exact z
    rw [em]
    have S:=s2.trans (s3.trans (s'.trans (same_upd (o:=.lst (ts.map V.ref)) hl2)))
    exact k q _ _ (S.free hq) (S.trans (same_upd hq)) upd_same hg
end
end Hv
namespace Me
noncomputable abbrev tot (f:List (Int×Int)):Int:=(f.map (·.2)).sum
theorem repl_none {f:List (Int×Int)} {k v:Int} (h:k∉keys f):(f.map fun p=>if p.1=k then (p.1,v) else p)=f:=by
  induction f with
  | nil=>rfl
  | cons p f ih =>
    have h1:p.1≠k:=fun z=>h (by simp [keys,z])
    have h2:k∉keys f:=fun z=>h (List.mem_cons_of_mem _ z)
    rw [List.map_cons,ih h2,if_neg h1]
theorem put_hit {f:List (Int×Int)} {a x v:Int} (h:a∉keys f):put ((a,x)::f) a v=(a,v)::f:=by
  unfold put
  rw [if_pos (by simp),List.map_cons,repl_none h,if_pos rfl]
theorem put_miss {f:List (Int×Int)} {a x k v:Int} (h:a≠k):put ((a,x)::f) k v=(a,x)::put f k v:=by
  unfold put
  have e:(((a,x)::f).any fun p=>decide (p.1=k))=f.any fun p=>decide (p.1=k):=by
    rw [List.any_cons]
    simp [h]
  rw [e]
  split
  · rw [List.map_cons,if_neg h]
  · rfl
theorem look_hit {f:List (Int×Int)} {a x:Int}:look ((a,x)::f) a=some x:=by simp [look]
theorem look_miss {f:List (Int×Int)} {a x k:Int} (h:a≠k):look ((a,x)::f) k=look f k:=by simp [look,h]
theorem add_hit {f:List (Int×Int)} {a x n:Int} (h:a∉keys f):addTo ((a,x)::f) a n=(a,x+n)::f:=by
  unfold addTo
  rw [look_hit,put_hit h]
  rfl
theorem add_miss {f:List (Int×Int)} {a x k n:Int} (h:a≠k):addTo ((a,x)::f) k n=(a,x)::addTo f k n:=by
  unfold addTo
  rw [look_miss h,put_miss h]
theorem add_tot {k n:Int}:∀ {f:List (Int×Int)},(keys f).Nodup→tot (addTo f k n)=tot f+n
  | [],_=>by simp [addTo,put,look,tot]
  | (a,x)::f,nd=>by
    have nd1:a∉keys f:=(List.nodup_cons.mp nd).1
    have nd2:(keys f).Nodup:=(List.nodup_cons.mp nd).2
    by_cases e:a=k
    · subst e
      rw [add_hit nd1]
      simp only [tot,List.map_cons,List.sum_cons]
      lia
    · have ih:=add_tot (k:=k) (n:=n) nd2
      rw [add_miss e]
      simp only [tot,List.map_cons,List.sum_cons] at ih⊢
      lia
theorem add_nn {k n:Int} (hn:0≤n):∀ {f:List (Int×Int)},(keys f).Nodup→(∀ p∈f,0≤p.2)→∀ p∈addTo f k n,0≤p.2
  | [],_,_=>by
    intro p hp
    have:p=(k,0+n):=by simpa [addTo,put,look] using hp
    rw [this]
    show 0≤0+n
    lia
  | (a,x)::f,nd,h=>by
    have nd1:a∉keys f:=(List.nodup_cons.mp nd).1
    have nd2:(keys f).Nodup:=(List.nodup_cons.mp nd).2
    have hx:0≤x:=h (a,x) (by simp)
    have hf:∀ p∈f,0≤p.2:=fun p hp=>h p (by simp [hp])
    by_cases e:a=k
    · subst e
      rw [add_hit nd1]
      intro p hp
      rcases List.mem_cons.mp hp with rfl | hp
      · show 0≤x+n
        lia
      · exact hf p hp
    · rw [add_miss e]
      intro p hp
      rcases List.mem_cons.mp hp with rfl | hp
      · exact hx
      · exact add_nn hn nd2 hf p hp
theorem add_nd {f:List (Int×Int)} {k n:Int} (nd:(keys f).Nodup):(keys (addTo f k n)).Nodup:=keys_put nd
structure Tw (f:List (Int×Int)) (t:Int):Prop where
  nd:(keys f).Nodup
  nn:∀ p∈f,0≤p.2
  tt:tot f=t
theorem Tw.add {f:List (Int×Int)} {t k n:Int} (o:Tw f t) (hn:0≤n):Tw (addTo f k n) (t+n):=⟨add_nd o.nd,add_nn hn o.nd o.nn,by rw [add_tot o.nd,o.tt]⟩
theorem Tw.figs {f:List (Int×Int)} {t w:Int} {p:Int×Int} (o:Tw f t) (hp:0≤p.2):∀ n:Nat,Tw (figs p w n f) (t+n*p.2)
  | 0=>by
    have e:t+((0:Nat):Int)*p.2=t:=by simp
    rw [e];exact o
  | n+1=>by
    have e:t+((n+1:Nat):Int)*p.2=(t+n*p.2)+p.2:=by push_cast;rw [Int.add_mul];lia
    rw [figs_succ,e]
    exact (Tw.figs o hp n).add hp
theorem Tw.more {b:Nat} {w:Int}:∀ {f:List (Int×Int)} {acc:List (Int×Int)} {t:Int},Tw acc t→(∀ p∈f,0≤p.2)→Tw (f.foldl (fun acc p=>Me.figs p w b acc) acc) (t+b*tot f)
  | [],acc,t,o,_=>by
    have e:t+(b:Int)*tot []=t:=by simp [tot]
    rw [e];exact o
  | p::f,acc,t,o,h=>by
    have e:t+(b:Int)*tot (p::f)=(t+b*p.2)+b*tot f:=by
      simp only [tot,List.map_cons,List.sum_cons]
      rw [Int.mul_add];lia
    rw [e,List.foldl_cons]
    exact Tw.more (o.figs (h p (by simp)) b) (fun q hq=>h q (by simp [hq]))
theorem Tw.one {f:List (Int×Int)} {t w:Int} {b:Nat} (o:Tw f t):Tw (oneMore f b w) (b*t):=by
  have z:Tw [] 0:=⟨by simp [keys],fun p hp=>by simp at hp,rfl⟩
  have h:=Tw.more (b:=b) (w:=w) z o.nn
  rw [o.tt] at h
  have e:(0:Int)+b*t=b*t:=by lia
  rw [e] at h
  exact h
theorem ways_tot (b:Nat):∀ (ws:List Int) (f:List (Int×Int)) (t:Int),Tw f t→Tw (ws.foldl (fun f w=>oneMore f b w) f) ((b:Int) ^ ws.length*t)
  | [],f,t,o=>by
    have e:(b:Int) ^ ([]:List Int).length*t=t:=by simp
    rw [e];exact o
  | w::ws,f,t,o=>by
    have e:(b:Int) ^ (w::ws).length*t=(b:Int) ^ ws.length*(b*t):=by
      rw [List.length_cons,Int.pow_succ,Int.mul_assoc]
    rw [e]
    exact ways_tot b ws _ _ o.one
theorem ways_tw (b:Nat) (ws:List Int):Tw (waysW b ws) ((b:Int) ^ ws.length):=by
  have z:Tw [(0,1)] 1:=⟨by simp [keys],fun p hp=>by
    have:p=(0,1):=by simpa using hp
    rw [this];decide,rfl⟩
  have h:=ways_tot b ws _ _ z
  rw [Int.mul_one] at h
  exact h
theorem le_tot:∀ {f:List (Int×Int)},(∀ p∈f,0≤p.2)→0≤tot f∧∀ p∈f,p.2≤tot f
  | [],_=>⟨by simp [tot],fun p hp=>by simp at hp⟩
  | q::f,h=>by
    obtain ⟨i1,i2⟩:=le_tot (f:=f) fun p hp=>h p (by simp [hp])
    have hq:=h q (by simp)
    have e:tot (q::f)=q.2+tot f:=by simp [tot]
    rw [e]
    refine ⟨by lia,fun p hp=>?_⟩
    rcases List.mem_cons.mp hp with rfl | hp
    · lia
    · have:=i2 p hp;lia
theorem ways_val {b:Nat} {ws:List Int} (hb:b≤16) (hl:ws.length≤6) (k:Int):0≤(look (waysW b ws) k).getD 0∧(look (waysW b ws) k).getD 0≤16777216:=by
  have o:=ways_tw b ws
  obtain ⟨h0,h1⟩:=le_tot o.nn
  rw [o.tt] at h1
  have hm:b ^ ws.length≤16 ^ 6:=Nat.le_trans (Nat.pow_le_pow_left hb _) (Nat.pow_le_pow_right (by decide) hl)
  have hm':((b:Int) ^ ws.length)≤16777216:=by
    have e:((b ^ ws.length:Nat):Int)=(b:Int) ^ ws.length:=Int.natCast_pow b ws.length
    rw [← e]
    have:(16:Nat) ^ 6=16777216:=by decide
    lia
  cases e:(waysW b ws).find? fun q=>decide (q.1=k) with
  | none =>
    rw [look,e]
    exact ⟨by decide,by decide⟩
  | some q =>
    have hq:=List.mem_of_find?_eq_some e
    rw [look,e]
    exact ⟨o.nn q hq,Int.le_trans (h1 q hq) hm'⟩
theorem look_perm {f g:List (Int×Int)} (h:f.Perm g) (nd:(keys g).Nodup) (k:Int):look f k=look g k:=by
  have ndf:(keys f).Nodup:=(h.map _).nodup_iff.mpr nd
  cases e:g.find? fun q=>decide (q.1=k) with
  | none =>
    have e2:f.find? (fun q=>decide (q.1=k))=none:=by
      rw [List.find?_eq_none] at e⊢
      exact fun x hx=>e x (h.mem_iff.mp hx)
    rw [look,look,e,e2]
  | some q =>
    have hq:=List.mem_of_find?_eq_some e
    have hk:q.1=k:=by simpa using List.find?_some e
    rw [← hk,look_mem nd hq,look_mem ndf (h.mem_iff.mpr hq)]
noncomputable def prodW (b:Nat) (rows:List (List Int)) (t:Int):Int:=rows.foldl (fun m row=>m*(look (waysW b row) t).getD 0) 1
theorem prodW_take {b i:Nat} {rows:List (List Int)} {row:List Int} {t:Int} (h:rows[i]?=some row):prodW b (rows.take (i+1)) t=prodW b (rows.take i) t*(look (waysW b row) t).getD 0:=by
  unfold prodW
  rw [List.take_add_one,h,List.foldl_append]
  rfl
noncomputable def evenL (b:Nat) (rows:List (List Int)) (ks:List Int):List (Int×Int):=(ks.filter fun k=>decide (0<prodW b rows k)).map fun k=>(k,prodW b rows k)
theorem even_keys (b:Nat) (rows:List (List Int)) (ks:List Int):keys (evenL b rows ks)=ks.filter fun k=>decide (0<prodW b rows k):=by
  rw [keys,evenL,List.map_map]
  exact List.map_id' _
theorem even_perm {b:Nat} {rows:List (List Int)} {ks ls:List Int} (h:ks.Perm ls):(evenL b rows ks).Perm (evenL b rows ls):=(h.filter _).map _
theorem even_len (b:Nat) (rows:List (List Int)) (ks:List Int):(evenL b rows ks).length≤ks.length:=by
  rw [evenL,List.length_map]
  exact List.length_filter_le _ _
theorem even_yes {b i:Nat} {rows:List (List Int)} {ks:List Int} {k:Int} (nd:ks.Nodup) (h:ks[i]?=some k) (hp:0<prodW b rows k):evenL b rows (ks.take (i+1))=put (evenL b rows (ks.take i)) k (prodW b rows k):=by
  have hk:k∉keys (evenL b rows (ks.take i)):=fun z=>by
    rw [even_keys] at z
    have z1:=(List.mem_filter.mp z).1
    obtain ⟨j,hj⟩:=List.mem_iff_getElem?.mp z1
    rw [List.getElem?_take] at hj
    split at hj
    · rename_i hji
      have:=(List.getElem?_inj (by have:=(List.getElem?_eq_some_iff.mp hj).1;exact this) nd).mp (hj.trans h.symm)
      lia
    · cases hj
  rw [put_new hk,evenL,List.take_add_one,h,List.filter_append,List.map_append]
  congr 1
  show ([k].filter _).map _=_
  rw [List.filter_cons_of_pos (by simpa using hp)]
  rfl
theorem even_no {b i:Nat} {rows:List (List Int)} {ks:List Int} {k:Int} (h:ks[i]?=some k) (hp:¬ 0<prodW b rows k):evenL b rows (ks.take (i+1))=evenL b rows (ks.take i):=by
  rw [evenL,evenL,List.take_add_one,h,List.filter_append,List.map_append]
  show _++([k].filter _).map _=_
  rw [List.filter_cons_of_neg (by simpa using hp)]
  simp
end Me
namespace Hv
open PySem L2
noncomputable abbrev WaysAt (H:Hp) (b:Nat) (qs:List Addr) (rows:List (List Int)):Prop:=Paired (fun q row=>∃ g,H q=some (.dK (intsD g))∧g.Perm (Me.waysW b row)) qs rows
theorem WaysAt.keep {H H':Hp} {b:Nat} {qs:List Addr} {rows:List (List Int)} (s:Same H H') (h:WaysAt H b qs rows):WaysAt H' b qs rows:=L2.Paired.mapP h fun q row ⟨g,e,p⟩=>⟨g,s _ _ e,p⟩
noncomputable abbrev WaysRd (H:Hp) (b:Nat) (qs:List Addr) (rows:List (List Int)):Prop:=Paired (fun q row=>∃ g,Rd H q (.dK (intsD g))∧g.Perm (Me.waysW b row)) qs rows
noncomputable def spWaysParts:Sp:=fun vs H Q _=>∃ f a c b ps ws,vs=[.ref f]∧FrAt H f a c b ps ws∧∀ (p:Addr) (qs:List Addr) (H':Hp),Same H H'→H p=none→H' p=some (.lst (qs.map V.ref))→WaysAt H' b qs (Ma.cuts ps ws)→Q (.ref p) H'
noncomputable def spWaysWith:Sp:=fun vs H Q _=>∃ (p:Addr) (qs:List Addr) (b:Nat) (rows:List (List Int)) (t:Int),vs=[.ref p,.int t]∧H p=some (.lst (qs.map V.ref))∧WaysRd H b qs rows∧b≤16∧(∀ row∈rows,(∀ x∈row,-9≤x∧x≤9)∧row.length≤6)∧
  Q (.int (Me.prodW b rows t)) H
section
variable {P:Program} {w:World} {K:PySem.W.Frag} {mg:Str→Option Value} {base:Heap}
theorem scWaysParts:FnScope ["frame"] ["frame"] (defScope sWaysParts):=⟨rfl,rfl,rfl,by decide +kernel,rfl,by decide +kernel,by decide +kernel⟩
theorem ok_waysparts {f:Addr} {fd:FuncData} (F:Fun K "ways_of_parts" "ways_of_parts" sWaysParts f fd) (T:Txt mg) (DC:Def P w K mg base 1 "cut_by_parts" ["frame","row"] spCut) (DV:Def P w K mg base 2 "ways_of_weights" ["base","weights"] spWaysW) :
    FnOk P w K mg base CX0 3 f fd ["frame"] spWaysParts:=by
  refine F.ok scWaysParts (fun vs H Q E h=>?_) (fun cdv A outer s H vs Q E hr h=>?_)
  · obtain ⟨g,a,c,b,ps,ws,rfl,_⟩:=h;rfl
  · obtain ⟨g,a,c,b,ps,ws,rfl,G,k⟩:=h
    refine ⟨_,pss_one (ps_ret (pe_cmp1 (defScope sWaysParts) ["frame"] ["frame"] [0] rfl (pi_list (pe_fn DC (hr.mono (by decide)) (by rfl) (pa_cons (pv 0) (pa_cons (ixt (pv 0) pe_int) pa_nil))))
      (fun cl C s H fp=>pf_nil) (fun cl C s H fp=>pe_fn DV hr (by rfl) (pa_cons (ixtK K rfl (pv 1) pe_int) (pa_cons (pv 0) pa_nil))) (by decide +kernel))),?_⟩
    refine ⟨_,rfl,_,rfl,_,_,_,_,rfl,rfl,SqT.of G.tp,rfl,g,a,c,b,ps,ws,c,ws,rfl,G,G.hw,fun p qs H2 s2 hp rows=>?_⟩
    have G2:=G.keep s2
    have hql:qs.length=ps.length:=by
      have e:qs.length=(Ma.cuts ps ws).length:=rows.length
      rw [e,Ma.cuts_len]
    have l4:=G.ok.l4
    refine ⟨p,rfl,⟨_,SqL.of hp⟩,comp_list (K:=K) (a:=p) (xs:=qs.map V.ref) (fun i ys H'=>∃ ts,ys=ts.map V.ref∧ts.length=i∧Same H2 H'∧WaysAt H' b ts ((Ma.cuts ps ws).take i))
      ⟨[],rfl,rfl,Same.refl _,.nil⟩ (fun i ys H' _ h=>by obtain ⟨_,_,_,s',_⟩:=h;exact SqL.of (s' _ _ hp)) ?_ ?_⟩
    · rintro i x ys H' hx ⟨ts,rfl,htl,s',wa⟩
      have hil:i<qs.length:=by have:=(List.getElem?_eq_some_iff.mp hx).1;simpa using this
      obtain ⟨q,hq,rfl⟩:∃ q:Addr,qs[i]?=some q∧x=.ref q:=by
        rw [List.getElem?_map] at hx
        cases e:qs[i]? with
        | none=>rw [e] at hx;cases hx
        | some d=>rw [e] at hx;exact ⟨d,rfl,(Option.some.inj hx).symm⟩
      obtain ⟨row,hj,hrow⟩:=rows_get rows hq
      refine ⟨szl (by rw [List.length_map];lia),_,rfl,_,_,_,_,rfl,rfl,SqT.of (G2.keep s').tp,rfl,_,rfl,b,q,row,rfl,s' _ _ hrow,G.ok.b16,fun x hx=>G.ok.wr x (Ma.cuts_mem (List.mem_of_getElem? hj) x hx),Ma.cuts_short (fun p hp=>(G.ok.pr p hp).2) (List.mem_of_getElem? hj),fun p' H3 gg np s3 hp3 hg=>⟨ts++[p'],by simp,by simp [htl],s'.trans s3,?_⟩⟩
      rw [List.take_add_one,hj]
      exact Paired.snoc (wa.keep s3) ⟨gg,hp3,hg⟩
    · rintro ys H' ⟨ts,rfl,htl,s',wa⟩ l hl
      have e:(qs.map V.ref).length=(Ma.cuts ps ws).length:=by rw [List.length_map,Ma.cuts_len];exact hql
      rw [e,List.take_length] at wa
      have sl:=same_upd (o:=.lst (ts.map V.ref)) hl
      exact k l ts _ (s2.trans (s'.trans sl)) (s2.free (s'.free hl)) upd_same (wa.keep sl)
theorem scWaysWith:FnScope ["ways_by_part","total","many","ways"] ["ways_by_part","total"] (defScope sWaysWith):=⟨rfl,rfl,rfl,by decide +kernel,rfl,by decide +kernel,by decide +kernel⟩
theorem ok_wayswith {f:Addr} {fd:FuncData} (F:Fun K "ways_with" "ways_with" sWaysWith f fd):FnOk P w K mg base CX0 1 f fd ["ways_by_part","total"] spWaysWith:=by
  refine F.ok scWaysWith (fun vs H Q E h=>?_) (fun cdv A outer s H vs Q E hr h=>?_)
  · obtain ⟨p,qs,b,rows,t,rfl,_⟩:=h;rfl
  · obtain ⟨p,qs,b,rows,t,rfl,hp,wa,hb,hrs,k⟩:=h
    have nd:=scWaysWith.nd
    have hu:=hu_of hr
    refine ⟨_,pss_cons (ps_set (i:=2) nd rfl (Or.inl rfl) pe_int)
      (pss_cons (ps_for PassesOwn.never rfl (pi_list (pv 0)) (pg_name (i:=3) nd rfl (Or.inl rfl))
        (pss_one (ps_set (i:=2) nd rfl (Or.inl rfl) (pe_op op_mul (pv 2) (pe_dget2 hu (pv 3) (pv 1) pe_int ⟨rfl,rfl,rfl,rfl⟩)))))
      (pss_one (ps_ret (pv 2)))),?_⟩
    refine ⟨_,rfl,p,rfl,⟨_,SqL.of hp⟩,for_list (K:=K) (a:=p) (xs:=qs.map V.ref) (fun i σ H'=>∃ v3,σ=[some (.ref p),some (.int t),some (.int (Me.prodW b (rows.take i) t)),v3]∧H=H')
      ⟨none,rfl,rfl⟩ (fun i σ H' _ h=>by obtain ⟨_,_,e⟩:=h;rw [← e];exact SqL.of hp) ?_ ?_⟩
    · rintro i x σ H' hx ⟨v3,rfl,rfl⟩
      obtain ⟨q,hq,rfl⟩:∃ q:Addr,qs[i]?=some q∧x=.ref q:=by
        rw [List.getElem?_map] at hx
        cases e:qs[i]? with
        | none=>rw [e] at hx;cases hx
        | some d=>rw [e] at hx;exact ⟨d,rfl,(Option.some.inj hx).symm⟩
      obtain ⟨row,hj,g,hg,perm⟩:=rows_get wa hq
      obtain ⟨hw,hl⟩:=hrs row (List.mem_of_getElem? hj)
      have wok:=Me.ways_ok' (b:=b) hw hb
      obtain ⟨v0,v1⟩:=Me.ways_val (b:=b) hb hl t
      have elk:=Me.look_perm perm wok.nd t
      have cm:CMul (Me.prodW b (rows.take i) t) ((Me.look g t).getD 0):=by rw [elk];exact .inr ⟨by lia,by lia⟩
      refine ⟨_,rfl,_,rfl,q,rfl,.inl ⟨_,hg⟩,_,rfl,_,dget_ints hg,Me.prodW b (rows.take i) t,(Me.look g t).getD 0,rfl,getD_int _,cm,some (.ref q),?_,rfl⟩
      rw [Me.prodW_take hj,← elk]
      rfl
    · rintro σ H' ⟨v3,rfl,rfl⟩
      have e:(qs.map V.ref).length=rows.length:=by rw [List.length_map];exact wa.length
      rw [e,List.take_length]
      exact ⟨_,rfl,k⟩
end
end Hv
namespace Hv
open PySem L2
noncomputable def spEvenBy:Sp:=fun vs H Q _=>∃ f a c b ps ws,vs=[.ref f]∧FrAt H f a c b ps ws∧∀ (p:Addr) (g:List (Int×Int)) (H':Hp),H p=none→Same H H'→H' p=some (.dK (intsD g))→
  (∃ row,(Ma.cuts ps ws)[0]?=some row∧g.Perm (Me.evenL b (Ma.cuts ps ws) (Me.keys (Me.waysW b row))))→Q (.ref p) H'
theorem rows_ok {H:Hp} {f a c:Addr} {b:Nat} {ps:List Nat} {ws:List Int} (G:FrAt H f a c b ps ws):∀ row∈Ma.cuts ps ws,(∀ x∈row,-9≤x∧x≤9)∧row.length≤6 :=
  fun row hr=>⟨fun x hx=>G.ok.wr x (Ma.cuts_mem hr x hx),Ma.cuts_short (fun p hp=>(G.ok.pr p hp).2) hr⟩
section
variable {P:Program} {w:World} {K:PySem.W.Frag} {mg:Str→Option Value} {base:Heap}
theorem scEvenBy:FnScope ["frame","ways_by_part","even","total","many"] ["frame"] (defScope sEvenBy):=⟨rfl,rfl,rfl,by decide +kernel,rfl,by decide +kernel,by decide +kernel⟩
theorem ok_evenby {f:Addr} {fd:FuncData} (F:Fun K "even_by_sums" "even_by_sums" sEvenBy f fd) (D5:Def P w K mg base 5 "need_frame" ["thing"] spNeedFrame) (DP:Def P w K mg base 3 "ways_of_parts" ["frame"] spWaysParts)
    (DW:Def P w K mg base 1 "ways_with" ["ways_by_part","total"] spWaysWith):FnOk P w K mg base CX0 6 f fd ["frame"] spEvenBy:=by
  refine F.ok scEvenBy (fun vs H Q E h=>?_) (fun cdv A outer s H vs Q E hr h=>?_)
  · obtain ⟨g,a,c,b,ps,ws,rfl,_⟩:=h;rfl
  · obtain ⟨g,a,c,b,ps,ws,rfl,G,k⟩:=h
    have nd:=scEvenBy.nd
    have hu:=hu_of hr
    refine ⟨_,pss_cons (ps_expr (pe_fn D5 hr (by rfl) (pa_cons (pv 0) pa_nil)))
      (pss_cons (ps_set (i:=1) nd rfl (Or.inl rfl) (pe_fn DP (hr.mono (by decide)) (by rfl) (pa_cons (pv 0) pa_nil)))
      (pss_cons (ps_set (i:=2) nd rfl (Or.inl rfl) pe_dnewK)
      (pss_cons (ps_for PassesOwn.never rfl (pi_dict (ixl (pv 1) pe_int)) (pg_name (i:=3) nd rfl (Or.inl rfl))
        (pss_cons (ps_set (i:=4) nd rfl (Or.inl rfl) (pe_fn DW (hr.mono (by decide)) (by rfl) (pa_cons (pv 1) (pa_cons (pv 3) pa_nil))))
        (pss_one (ps_if (pt_cmpR op_gt (pv 4) pe_int (nomark _)) (pss_one (ps_dput hu (pv 2) (pv 3) (pv 4) rfl)) pss_nil))))
      (pss_thaw (pss_one (ps_ret (pv 2))))))),?_⟩
    refine ⟨_,rfl,g,a,c,b,ps,ws,rfl,G,fun H1 s1=>?_⟩
    have G1:=G.keep s1
    refine ⟨_,rfl,g,a,c,b,ps,ws,rfl,G1,fun p qs H2 s2 hp hp2 wa=>?_⟩
    intro l hl
    -- the first part's
    obtain ⟨row,hrow⟩:∃ row,(Ma.cuts ps ws)[0]?=some row:=⟨(Ma.cuts ps ws)[0]'(by rw [Ma.cuts_len];have:=G.ok.l2;lia),by simp⟩
    obtain ⟨q,hq⟩:∃ q,qs[0]?=some q:=⟨qs[0]'(by have e:qs.length=(Ma.cuts ps ws).length:=wa.length;rw [e,Ma.cuts_len];have:=G.ok.l2;lia),by simp⟩
    obtain ⟨row',hrow',g0,hg0,perm⟩:=rows_get wa hq
    have er:row'=row:=by rw [hrow] at hrow';exact (Option.some.inj hrow').symm
    subst er
    obtain ⟨hw0,hl0⟩:=rows_ok G row' (List.mem_of_getElem? hrow)
    have wok:=Me.ways_ok' (b:=b) hw0 G.ok.b16
    have wln:=Me.Ok.len (m:=135*row'.length) (by push_cast at wok⊢;exact wok)
    have nd0:(Me.keys g0).Nodup:=(perm.map _).nodup_iff.mpr wok.nd
    have hgl:g0.length≤2000:=by rw [perm.length_eq];lia
    have s3:Same H2 (upd H2 l (.dK [])):=same_upd hl
    have hql:q≠l:=ne_of_none hg0 hl
    have hpl:p≠l:=ne_of_none hp2 hl
    have hqp:q≠p:=ne_of hg0 hp2 (by intro z;cases z)
    have l3:(upd H2 l (.dK [])) l=some (.dK (intsD [])):=upd_same
    generalize upd H2 l (.dK [])=H3 at s3 l3⊢
    have q3:=s3 _ _ hg0
    have p3:=s3 _ _ hp2
    have at0:atI (qs.map V.ref) 0=some (.ref q):=atI_nat (j:=0) (by rw [List.getElem?_map,hq];rfl)
    refine ⟨_,rfl,p,_,0,.ref q,rfl,rfl,SqL.of p3,at0,q,intsD g0,rfl,q3,fun o=>for_dict (fun i σ H'=>∃ v3 v4,σ=[some (.ref g),some (.ref p),some (.ref l),v3,v4]∧H' q=some (.frz o (.dK (intsD g0)))∧(∀ x ob,x≠q→x≠l→H3 x=some ob→H' x=some ob)∧H' l=some (.dK (intsD (Me.evenL b (Ma.cuts ps ws) ((Me.keys g0).take i)))))
      ⟨none,none,rfl,upd_same,fun x ob hx _ e=>by rw [upd_ne hx];exact e,by rw [upd_ne hql.symm,l3];rfl⟩ (fun i σ H' _ h=>by obtain ⟨_,_,_,z,_⟩:=h;exact z) ?_ ?_⟩
    · rintro i kk v σ H' hk ⟨v3,v4,rfl,fq,kp,hl'⟩
      obtain ⟨pr,hpr,rfl,rfl⟩:=ints_at hk
      have hki:(Me.keys g0)[i]?=some pr.1:=by rw [Me.keys,List.getElem?_map,hpr];rfl
      have p':=kp p _ hqp.symm hpl p3
      have wr:WaysRd H' b qs (Ma.cuts ps ws):=L2.Paired.mapP wa fun q1 row1 ⟨g1,e1,pm1⟩=>by
        by_cases e:q1=q
        · subst e
          have eg:intsD g1=intsD g0:=by rw [e1] at hg0;injection hg0 with hg0;injection hg0
          exact ⟨g1,.inr ⟨o,by rw [eg];exact fq⟩,pm1⟩
        · exact ⟨g1,.inl (kp q1 _ e (ne_of_none e1 hl) (s3 _ _ e1)),pm1⟩
      have hlen:=Me.even_len b (Ma.cuts ps ws) ((Me.keys g0).take i)
      have hlen2:((Me.keys g0).take i).length≤2000:=by
        rw [List.length_take,Me.keys,List.length_map];lia
      refine ⟨_,rfl,_,rfl,p,qs,b,Ma.cuts ps ws,pr.1,rfl,p',wr,G.ok.b16,rows_ok G,?_⟩
      refine ⟨_,rfl,_,_,rfl,rfl,_,rfl,ite2 (fun h=>?_) (fun h=>?_)⟩
      · have h':0<Me.prodW b (Ma.cuts ps ws) pr.1:=of_decide_eq_true h
        refine ⟨_,rfl,_,rfl,_,rfl,l,_,rfl,dput_ints hl' (by lia),_,_,rfl,?_,fun x ob h1 h2 e=>?_,?_⟩
        · rw [upd_ne hql];exact fq
        · rw [upd_ne h2];exact kp x ob h1 h2 e
        · rw [upd_same,Me.even_yes nd0 hki h']
      · have h':¬ 0<Me.prodW b (Ma.cuts ps ws) pr.1:=fun z=>h (decide_eq_true z)
        refine ⟨_,_,rfl,fq,kp,?_⟩
        rw [Me.even_no hki h']
        exact hl'
    · rintro σ H' ⟨v3,v4,rfl,fq,kp,hl'⟩
      have el:(intsD g0).length=(Me.keys g0).length:=by rw [intsD,Me.keys,List.length_map,List.length_map]
      rw [el,List.take_length] at hl'
      have S3:=s1.trans (s2.trans s3)
      have lH:H l=none:=s1.free (s2.free hl)
      refine ⟨q,o,intsD g0,fq,(fun o' u z=>?_),_,rfl,k l _ _ lH (fun x ob e=>?_) (by rw [upd_ne hql.symm];exact hl') ⟨row',hrow,Me.even_perm (perm.map _)⟩⟩
      · have z':H q=some (.frz o' u):=z
        have:=S3 _ _ z'
        rw [q3] at this;cases this
      · by_cases hx:x=q
        · have:=S3 _ _ e
          rw [hx] at this
          rw [hx,upd_same,← this,q3]
        · rw [upd_ne hx];exact kp x ob hx (ne_of_none e lH) (S3 _ _ e)
end
end Hv
namespace Me
noncomputable abbrev gv (f:List (Int×Int)) (k:Int):Int:=(look f k).getD 0
theorem look_add {k n j:Int}:∀ {f:List (Int×Int)},(keys f).Nodup→gv (addTo f k n) j=gv f j+if k=j then n else 0
  | [],_=>by
    by_cases e:k=j <;> simp [gv,addTo,put,look,e]
  | (a,x)::f,nd=>by
    have nd1:a∉keys f:=(List.nodup_cons.mp nd).1
    have nd2:(keys f).Nodup:=(List.nodup_cons.mp nd).2
    by_cases e:a=k
    · subst e
      rw [add_hit nd1]
      by_cases h:a=j
      · subst h
        rw [gv,gv,look_hit,look_hit,if_pos rfl]
        rfl
      · rw [gv,gv,look_miss h,look_miss h,if_neg h]
        lia
    · rw [add_miss e]
      by_cases h:a=j
      · subst h
        rw [gv,gv,look_hit,look_hit,if_neg (fun z=>e z.symm)]
        show x=x+0
        lia
      · have ih:=look_add (k:=k) (n:=n) (j:=j) nd2
        rw [gv,gv,look_miss h,look_miss h]
        exact ih
theorem gv_add {f:List (Int×Int)} {k n j:Int} (nd:(keys f).Nodup) (hn:0≤n):gv f j≤gv (addTo f k n) j:=by
  rw [look_add nd]
  split <;> lia
theorem figs_nd {p:Int×Int} {w:Int} {acc:List (Int×Int)} (nd:(keys acc).Nodup):∀ n:Nat,(keys (figs p w n acc)).Nodup
  | 0=>nd
  | n+1=>by rw [figs_succ];exact add_nd (figs_nd nd n)
theorem figs_ge {p:Int×Int} {w j:Int} {acc:List (Int×Int)} (nd:(keys acc).Nodup) (hp:0≤p.2):∀ n:Nat,gv acc j≤gv (figs p w n acc) j
  | 0=>Int.le_refl _
  | n+1=>by
    rw [figs_succ]
    exact Int.le_trans (figs_ge nd hp n) (gv_add (figs_nd nd n) hp)
theorem figs_own {p:Int×Int} {w:Int} {acc:List (Int×Int)} (nd:(keys acc).Nodup) (hp:0≤p.2):∀ n:Nat,gv acc p.1+p.2≤gv (figs p w (n+1) acc) p.1
  | 0=>by
    rw [figs_succ]
    have e:p.1+((0:Nat):Int)*w=p.1:=by simp
    rw [e,look_add (figs_nd nd 0),if_pos rfl]
    exact Int.le_refl _
  | n+1=>by
    rw [figs_succ]
    exact Int.le_trans (figs_own nd hp n) (gv_add (figs_nd nd (n+1)) hp)
theorem more_ge {b:Nat} {w j:Int}:∀ {f acc:List (Int×Int)},(keys acc).Nodup→(∀ p∈f,0≤p.2)→gv acc j≤gv (f.foldl (fun acc p=>figs p w b acc) acc) j
  | [],_,_,_=>Int.le_refl _
  | p::f,acc,nd,h=>by
    rw [List.foldl_cons]
    exact Int.le_trans (figs_ge nd (h p (by simp)) b) (more_ge (figs_nd nd b) fun q hq=>h q (by simp [hq]))
theorem more_own {b:Nat} {w:Int} {p:Int×Int}:∀ {f acc:List (Int×Int)},(keys acc).Nodup→(∀ p∈f,0≤p.2)→p∈f→gv acc p.1+p.2≤gv (f.foldl (fun acc p=>figs p w (b+1) acc) acc) p.1
  | [],_,_,_,hp=>by simp at hp
  | q::f,acc,nd,h,hp=>by
    rw [List.foldl_cons]
    rcases List.mem_cons.mp hp with rfl | hp
    · exact Int.le_trans (figs_own nd (h p (by simp)) b) (more_ge (figs_nd nd (b+1)) fun q hq=>h q (by simp [hq]))
    · have h1:=figs_ge (w:=w) (j:=p.1) nd (h q (by simp)) (b+1)
      have h2:=more_own (w:=w) (b:=b) (figs_nd (p:=q) (w:=w) nd (b+1)) (fun q hq=>h q (by simp [hq])) hp
      lia
theorem gv_mem {f:List (Int×Int)} {k:Int} (h:1≤gv f k):(k,gv f k)∈f:=by
  cases e:f.find? fun q=>decide (q.1=k) with
  | none =>
    have z:gv f k=0:=by rw [gv,look,e];rfl
    lia
  | some q =>
    have hq:=List.mem_of_find?_eq_some e
    have hk:q.1=k:=by simpa using List.find?_some e
    have z:gv f k=q.2:=by rw [gv,look,e];rfl
    rw [z,← hk]
    exact hq
theorem zero_ways {b:Nat}:∀ (ws:List Int) (f:List (Int×Int)) (t:Int),Tw f t→1≤gv f 0→1≤gv (ws.foldl (fun f w=>oneMore f (b+1) w) f) 0
  | [],_,_,_,h=>h
  | w::ws,f,t,o,h=>by
    rw [List.foldl_cons]
    refine zero_ways ws _ _ o.one ?_
    have:=more_own (w:=w) (b:=b) (acc:=[]) (by simp [keys]) o.nn (gv_mem h)
    have e:gv [] 0=0:=rfl
    unfold oneMore
    have h2:gv f 0≤gv (f.foldl (fun acc p=>figs p w (b+1) acc) []) 0:=by
      have:=this
      simp only [e] at this
      lia
    lia
theorem ways_zero {b:Nat} (hb:1≤b) (ws:List Int):1≤gv (waysW b ws) 0:=by
  obtain ⟨c,rfl⟩:∃ c,b=c+1:=⟨b - 1,by lia⟩
  exact zero_ways ws [(0,1)] 1 ⟨by simp [keys],fun p hp=>by
    have:p=(0,1):=by simpa using hp
    rw [this];decide,rfl⟩ (by decide)
theorem ways_gv (b:Nat) (row:List Int) (t:Int):0≤(look (waysW b row) t).getD 0:=by
  have o:=ways_tw b row
  cases e:(waysW b row).find? fun q=>decide (q.1=t) with
  | none=>rw [look,e];exact Int.le_refl _
  | some q=>rw [look,e];exact o.nn q (List.mem_of_find?_eq_some e)
theorem prod_nn {b:Nat} {t:Int}:∀ (rows:List (List Int)) (m:Int),0≤m→0≤rows.foldl (fun m row=>m*(look (waysW b row) t).getD 0) m
  | [],_,h=>h
  | row::rows,m,h=>by
    rw [List.foldl_cons]
    exact prod_nn rows _ (Int.mul_nonneg h (ways_gv b row t))
theorem prod_zero {b:Nat} {t:Int}:∀ (rows:List (List Int)),rows.foldl (fun m row=>m*(look (waysW b row) t).getD 0) 0=0
  | []=>rfl
  | row::rows=>by
    rw [List.foldl_cons,Int.zero_mul]
    exact prod_zero rows
theorem look_none {f:List (Int×Int)} {t:Int} (h:t∉keys f):look f t=none:=by
  cases e:f.find? fun q=>decide (q.1=t) with
  | none=>rw [look,e];rfl
  | some q =>
    exfalso
    exact h (List.mem_map.mpr ⟨q,List.mem_of_find?_eq_some e,by simpa using List.find?_some e⟩)
theorem prodW_off {b:Nat} {rows:List (List Int)} {row:List Int} {t:Int} (h:rows[0]?=some row) (ht:t∉keys (waysW b row)):prodW b rows t=0:=by
  cases rows with
  | nil=>cases h
  | cons r rows =>
    have e:r=row:=Option.some.inj h
    subst e
    unfold prodW
    rw [List.foldl_cons,look_none ht]
    exact prod_zero rows
theorem sum_perm {l m:List Int} (h:l.Perm m):l.sum=m.sum:=by
  induction h with
  | nil=>rfl
  | cons x _ ih=>rw [List.sum_cons,List.sum_cons,ih]
  | swap x y l=>simp only [List.sum_cons];lia
  | trans _ _ a b=>exact a.trans b
theorem tot_perm {f g:List (Int×Int)} (h:f.Perm g):tot f=tot g:=sum_perm (h.map _)
end Me
namespace Mq
noncomputable def sm (f:Int→Int) (a:Int):Nat→Int
  | 0=>0
  | n+1=>sm f a n+f (a+n)
theorem sm_add (f:Int→Int) (a:Int) (n:Nat):∀ m:Nat,sm f a (n+m)=sm f a n+sm f (a+n) m
  | 0=>by simp [sm]
  | m+1=>by
    rw [← Nat.add_assoc,sm,sm,sm_add f a n m]
    have e:a+((n+m:Nat):Int)=a+n+m:=by push_cast;lia
    rw [e]
    lia
theorem sm_zero {f:Int→Int} {a:Int}:∀ {n:Nat},(∀ t,a≤t→t<a+n→f t=0)→sm f a n=0
  | 0,_=>rfl
  | n+1,h=>by
    rw [sm,sm_zero (n:=n) fun t h1 h2=>h t h1 (by push_cast;lia),h (a+n) (by lia) (by push_cast;lia)]
    rfl
theorem sm_congr {f g:Int→Int} {a:Int}:∀ {n:Nat},(∀ t,a≤t→t<a+n→f t=g t)→sm f a n=sm g a n
  | 0,_=>rfl
  | n+1,h=>by
    rw [sm,sm,sm_congr (n:=n) fun t h1 h2=>h t h1 (by push_cast;lia),h (a+n) (by lia) (by push_cast;lia)]
theorem sm_end {f:Int→Int} {a h:Int} {n m:Nat} (hf:∀ t,h<t→f t=0) (hn:h<a+n) (hm:h<a+m):sm f a n=sm f a m:=by
  have key:∀ {n m:Nat},n≤m→h<a+n→sm f a n=sm f a m:=fun {n m} hle hn=>by
    obtain ⟨k,rfl⟩:=Nat.exists_eq_add_of_le hle
    rw [sm_add,sm_zero (f:=f) (a:=a+n) (n:=k) fun t h1 _=>hf t (by lia)]
    lia
  rcases Nat.le_total n m with z | z
  · exact key z hn
  · exact (key z hm).symm
theorem sm_part {g:Int→Int} {a b:Int} {n m:Nat} (h1:a≤b) (h2:b+m≤a+n) (z1:∀ t,a≤t→t<b→g t=0) (z2:∀ t,b+m≤t→t<a+n→g t=0):sm g a n=sm g b m:=by
  obtain ⟨k,rfl⟩:∃ k:Nat,b=a+k:=⟨(b - a).toNat,by lia⟩
  obtain ⟨r,rfl⟩:∃ r:Nat,n=k+(m+r):=⟨n - k - m,by lia⟩
  rw [sm_add,sm_add,sm_zero (f:=g) (a:=a) (n:=k) fun t h1 h2=>z1 t h1 h2,sm_zero (f:=g) (a:=a+k+m) (n:=r) fun t h1 h2=>z2 t (by lia) (by push_cast;lia)]
  lia
noncomputable def pr (fs:List (Int→Int)) (a:Int) (n:Nat):Int:=fs.foldl (fun m f=>m*sm f a n) 1
theorem fold_zero {fs:List (Int→Int)} {a:Int} {n:Nat}:fs.foldl (fun m f=>m*sm f a n) 0=0:=by
  induction fs with
  | nil=>rfl
  | cons f r ih=>simpa using ih
theorem pr_zero {fs:List (Int→Int)} {a:Int} {n:Nat} {f:Int→Int} (hf:f∈fs) (h:sm f a n=0):pr fs a n=0:=by
  have key:∀ (fs:List (Int→Int)) (c:Int),f∈fs→fs.foldl (fun m f=>m*sm f a n) c=0:=fun fs=>by
    induction fs with
    | nil=>intro c h;simp at h
    | cons q r ih =>
      intro c hq
      rcases List.mem_cons.mp hq with rfl | hq
      · rw [List.foldl_cons,h,Int.mul_zero];exact fold_zero
      · rw [List.foldl_cons];exact ih _ hq
  exact key fs 1 hf
theorem pr_congr {fs:List (Int→Int)} {a b:Int} {n m:Nat} (h:∀ f∈fs,sm f a n=sm f b m):pr fs a n=pr fs b m:=by
  have key:∀ (fs:List (Int→Int)) (c:Int),(∀ f∈fs,sm f a n=sm f b m)→fs.foldl (fun m f=>m*sm f a n) c=fs.foldl (fun q f=>q*sm f b m) c:=fun fs=>by
    induction fs with
    | nil=>intro c _;rfl
    | cons q r ih =>
      intro c hq
      rw [List.foldl_cons,List.foldl_cons,hq q (by simp)]
      exact ih _ fun f hf=>hq f (by simp [hf])
  exact key fs 1 h
noncomputable def gat (fs:List (Int→Int)) (d:Nat) (t:Int):Int:=pr fs t (d+1) - pr fs (t+1) d
theorem gat_cut {fs:List (Int→Int)} {d r:Nat} {t low high:Int} (hs:∀ f∈fs,∀ u,high<u→f u=0) (ht:low≤t) (hr:(r:Int)=d∨(high - low≤r∧high - low≤d)):gat fs d t=gat fs r t:=by
  rcases hr with hr | ⟨h1,h2⟩
  · rw [show d=r by lia]
  · unfold gat
    rw [pr_congr (fs:=fs) (a:=t) (b:=t) (n:=d+1) (m:=r+1) fun f hf=>sm_end (h:=high) (hs f hf) (by push_cast;lia) (by push_cast;lia),
      pr_congr (fs:=fs) (a:=t+1) (b:=t+1) (n:=d) (m:=r) fun f hf=>sm_end (h:=high) (hs f hf) (by push_cast;lia) (by push_cast;lia)]
theorem gat_up {fs:List (Int→Int)} {d:Nat} {t last:Int} {f:Int→Int} (hf:f∈fs) (h:∀ u,last<u→f u=0) (ht:last<t):gat fs d t=0:=by
  unfold gat
  rw [pr_zero hf (sm_zero fun u h1 _=>h u (by lia)),pr_zero hf (sm_zero fun u h1 _=>h u (by lia))]
  rfl
theorem gat_dn {fs:List (Int→Int)} {d:Nat} {t l:Int} {f:Int→Int} (hf:f∈fs) (h:∀ u,u<l→f u=0) (ht:t+d<l):gat fs d t=0:=by
  unfold gat
  rw [pr_zero hf (sm_zero fun u _ h2=>h u (by push_cast at h2;lia)),pr_zero hf (sm_zero fun u _ h2=>h u (by push_cast at h2;lia))]
  rfl
theorem near_eq {fs:List (Int→Int)} {d:Nat} {low high maxl ming:Int} {fl fg:Int→Int} (hs:∀ f∈fs,∀ u,high<u→f u=0) (hl:fl∈fs) (hl':∀ u,u<maxl→fl u=0) (hg:fg∈fs) (hg':∀ u,ming<u→fg u=0)
    (o1:low≤maxl) (o2:ming≤high) (o3:low≤high) (o4:low≤ming) (o5:maxl≤high) {r:Nat} (hr:(r:Int)=if high - low<d then high - low else d) {first:Int} (hfirst:first=if maxl - r>low then maxl - r else low) :
    sm (gat fs d) low (high - low+1).toNat=sm (gat fs r) first (ming - first+1).toNat:=by
  have hr2:(r:Int)=d∨(high - low≤r∧high - low≤d):=by split at hr <;> lia
  have e:sm (gat fs d) low (high - low+1).toNat=sm (gat fs r) low (high - low+1).toNat:=sm_congr fun t h1 _=>gat_cut hs h1 hr2
  rw [e]
  have up:∀ t,ming<t→gat fs r t=0:=fun t h=>gat_up hg hg' h
  have dn:∀ t,t+r<maxl→gat fs r t=0:=fun t h=>gat_dn hl hl' h
  have f1:low≤first:=by rw [hfirst];split <;> lia
  have f2:∀ t,low≤t→t<first→t+r<maxl:=fun t a b=>by rw [hfirst] at b;split at b <;> lia
  by_cases hc:first≤ming+1
  · exact sm_part f1 (by lia) (fun t a b=>dn t (f2 t a b)) fun t a b=>up t (by lia)
  · rw [sm_zero (f:=gat fs r) (a:=low) fun t a b=>?_,sm_zero (f:=gat fs r) (a:=first) fun t a b=>up t (by lia)]
    by_cases q:t<first
    · exact dn t (f2 t a q)
    · exact up t (by lia)
end Mq
namespace Me
noncomputable def fw (b:Nat) (row:List Int):Int→Int:=fun t=>gv (waysW b row) t
noncomputable def fws (b:Nat) (rows:List (List Int)):List (Int→Int):=rows.map (fw b)
noncomputable def loW (b:Nat) (row:List Int):Int:=Ma.minL (keys (waysW b row))
noncomputable def hiW (b:Nat) (row:List Int):Int:=Ma.maxL (keys (waysW b row))
noncomputable def los (b:Nat) (rows:List (List Int)):List Int:=rows.map (loW b)
noncomputable def his (b:Nat) (rows:List (List Int)):List Int:=rows.map (hiW b)
noncomputable def nearV (b:Nat) (rows:List (List Int)) (d:Nat):Int:=Mq.sm (Mq.gat (fws b rows) d) (Ma.minL (los b rows)) (Ma.maxL (his b rows) - Ma.minL (los b rows)+1).toNat
theorem keys_ne {b:Nat} (hb:1≤b) (row:List Int):0<(keys (waysW b row)).length:=by
  have h:=gv_mem (ways_zero hb row)
  have:(0:Int)∈keys (waysW b row):=List.mem_map.mpr ⟨_,h,rfl⟩
  exact List.length_pos_of_mem this
theorem sm_bd {f:Int→Int} (h:∀ t,0≤f t∧f t≤16777216) (a:Int):∀ n:Nat,0≤Mq.sm f a n∧Mq.sm f a n≤16777216*n
  | 0=>⟨Int.le_refl _,Int.le_refl _⟩
  | n+1=>by
    have ih:=sm_bd h a n
    have:=h (a+n)
    simp only [Mq.sm]
    push_cast
    lia
end Me
namespace Me
structure DOk (g:List (Int×Int)):Prop where
  ne:0<(keys g).length
  nd:(keys g).Nodup
  bd:∀ k∈keys g,-810≤k∧k≤810
  val:∀ t,0≤gv g t∧gv g t≤16777216
noncomputable def losG (gs:List (List (Int×Int))):List Int:=gs.map fun g=>Ma.minL (keys g)
noncomputable def hisG (gs:List (List (Int×Int))):List Int:=gs.map fun g=>Ma.maxL (keys g)
noncomputable def fG (gs:List (List (Int×Int))):List (Int→Int):=gs.map fun g t=>gv g t
noncomputable def nearG (gs:List (List (Int×Int))) (d:Nat):Int:=Mq.sm (Mq.gat (fG gs) d) (Ma.minL (losG gs)) (Ma.maxL (hisG gs) - Ma.minL (losG gs)+1).toNat
theorem gv_dn {g:List (Int×Int)} (o:DOk g) {t:Int} (h:t<Ma.minL (keys g)):gv g t=0:=by
  have n:t∉keys g:=fun z=>by
    have:=(Ma.minL_spec _ o.ne).2 t z
    lia
  unfold gv
  rw [look_none n]
  rfl
theorem gv_up {g:List (Int×Int)} (o:DOk g) {t:Int} (h:Ma.maxL (keys g)<t):gv g t=0:=by
  have n:t∉keys g:=fun z=>by
    have:=(Ma.maxL_spec _ o.ne).2 t z
    lia
  unfold gv
  rw [look_none n]
  rfl
theorem lohi {g:List (Int×Int)} (o:DOk g) : -810≤Ma.minL (keys g)∧Ma.minL (keys g)≤Ma.maxL (keys g)∧Ma.maxL (keys g)≤810:=by
  have h1:=o.bd _ (Ma.minL_spec _ o.ne).1
  have h2:=o.bd _ (Ma.maxL_spec _ o.ne).1
  have h3:=(Ma.minL_spec _ o.ne).2 _ (Ma.maxL_spec _ o.ne).1
  lia
theorem boundsG {gs:List (List (Int×Int))} (hne:0<gs.length) (hg:∀ g∈gs,DOk g) :
    -810≤Ma.minL (losG gs)∧Ma.minL (losG gs)≤Ma.maxL (losG gs)∧Ma.maxL (losG gs)≤Ma.maxL (hisG gs)∧Ma.minL (losG gs)≤Ma.minL (hisG gs)∧Ma.minL (hisG gs)≤Ma.maxL (hisG gs)∧Ma.maxL (hisG gs)≤810:=by
  have nl:0<(losG gs).length:=by rw [losG,List.length_map];exact hne
  have nh:0<(hisG gs).length:=by rw [hisG,List.length_map];exact hne
  obtain ⟨m1,m2⟩:=Ma.minL_spec _ nl
  obtain ⟨m3,m4⟩:=Ma.maxL_spec _ nl
  obtain ⟨m5,m6⟩:=Ma.minL_spec _ nh
  obtain ⟨m7,m8⟩:=Ma.maxL_spec _ nh
  obtain ⟨rl,hrl,erl⟩:=List.mem_map.mp m3
  obtain ⟨rg,hrg,erg⟩:=List.mem_map.mp m5
  obtain ⟨r1,hr1,er1⟩:=List.mem_map.mp m1
  obtain ⟨r7,hr7,er7⟩:=List.mem_map.mp m7
  have a1:=lohi (hg r1 hr1)
  have a2:=lohi (hg rl hrl)
  have a3:=lohi (hg rg hrg)
  have a4:=lohi (hg r7 hr7)
  have b1:=m8 _ (List.mem_map.mpr ⟨rl,hrl,rfl⟩)
  have b2:=m2 _ (List.mem_map.mpr ⟨rg,hrg,rfl⟩)
  exact ⟨by lia,m2 _ m3,by lia,by lia,m6 _ m7,by lia⟩
theorem near_progG {gs:List (List (Int×Int))} (hne:0<gs.length) (hg:∀ g∈gs,DOk g) {d r:Nat} {first:Int} (hr:(r:Int)=if Ma.maxL (hisG gs) - Ma.minL (losG gs)<d then Ma.maxL (hisG gs) - Ma.minL (losG gs) else d)
    (hf:first=if Ma.maxL (losG gs) - r>Ma.minL (losG gs) then Ma.maxL (losG gs) - r else Ma.minL (losG gs)) :
    Mq.sm (Mq.gat (fG gs) r) first (Ma.minL (hisG gs) - first+1).toNat=nearG gs d:=by
  have nl:0<(losG gs).length:=by rw [losG,List.length_map];exact hne
  have nh:0<(hisG gs).length:=by rw [hisG,List.length_map];exact hne
  have B:=boundsG hne hg
  obtain ⟨m1,m2⟩:=Ma.minL_spec _ nl
  obtain ⟨m3,m4⟩:=Ma.maxL_spec _ nl
  obtain ⟨m5,m6⟩:=Ma.minL_spec _ nh
  obtain ⟨m7,m8⟩:=Ma.maxL_spec _ nh
  obtain ⟨rl,hrl,erl⟩:=List.mem_map.mp m3
  obtain ⟨rg,hrg,erg⟩:=List.mem_map.mp m5
  unfold nearG
  exact (Mq.near_eq (fs:=fG gs) (fl:=fun t=>gv rl t) (fg:=fun t=>gv rg t) (fun f hf u hu=>by
      obtain ⟨g,hgm,rfl⟩:=List.mem_map.mp hf
      exact gv_up (hg g hgm) (by have:=m8 _ (List.mem_map.mpr ⟨g,hgm,rfl⟩);lia))
    (List.mem_map.mpr ⟨rl,hrl,rfl⟩) (fun u hu=>gv_dn (hg rl hrl) (by lia)) (List.mem_map.mpr ⟨rg,hrg,rfl⟩) (fun u hu=>gv_up (hg rg hrg) (by lia)) (by lia) (by lia) (by lia) (by lia) (by lia) hr hf).symm
end Me
namespace L2
open PySem PySem.Spec PyProof.Rows
section
variable {X:Cx} {tg:Expr}
end
section
variable {X:Cx}
theorem key_int {P:Program} {w:World} {vs:List (Key×Value)} {ns:List Int} (hk:vs.map (·.1)=ns.map Sum.inl) {i:Nat} {v:Value} (h:∃ k x,vs[i]?=some (k,x)∧(mixKind P w).is k v=true):∃ n t,ns[i]?=some n∧v=Value.int n t:=by
  obtain ⟨k,x,h1,h2⟩:=h
  have h3:(vs.map (·.1))[i]?=some k:=by rw [List.getElem?_map,h1];rfl
  rw [hk,List.getElem?_map] at h3
  cases q:ns[i]? with
  | none=>rw [q] at h3;cases h3
  | some m =>
    rw [q] at h3
    have h4:Sum.inl m=k:=Option.some.inj h3
    subst h4
    have h5:keyIs (Sum.inl m) v=true:=h2
    rcases keyIs_shape h5 with ⟨i',t,e1,e2⟩ | ⟨y,t,e1,_⟩
    · cases e1;exact ⟨m,t,rfl,e2⟩
    · cases e1
theorem call_maxD (hc:X.calm=true):CallR X (.builtin "max") (fun xs H Q=>∃ (a:Addr) (kvs:List (Key×V)) (ns:List Int),xs=[.ref a]∧Rd H a (.dK kvs)∧kvs.map (·.1)=ns.map Sum.inl∧0<ns.length∧Q (.int (Ma.maxL ns)) H):=by
  intro pins s σ H xs us Q I r h
  obtain ⟨a,kvs,ns,rfl,e,hk,hne,q⟩:=h
  obtain ⟨u,rfl,ru⟩:=vals1 r
  cases ru
  obtain ⟨z,hd,vs,rel,o,es,ep,ho,dd⟩:=dk_rd I.hok e
  have hkv:vs.map (·.1)=ns.map Sum.inl:=by rw [← rel.keys];exact hk
  have hn:vs.length=ns.length:=by simpa using congrArg List.length hkv
  have KS:=PySem.W.kdl_dict (prog:=X.prog) (w:=X.w) (ep:=ep) (kvs:=vs) (knd:=mixKind X.prog X.w) hd
  have hval:∀ (i:Nat) (v:Value),(∃ k x,vs[i]?=some (k,x)∧(mixKind X.prog X.w).is k v=true)→∃ t,v=.int ((fun i=>(ns[i]?).getD 0) i) t:=fun i v hP=>by
    obtain ⟨n,t,e,rfl⟩:=key_int hkv hP
    exact ⟨t,by simp [e]⟩
  obtain ⟨oI,St,hit,W,st⟩:=KS.iter X.A.in1 s (I.ok.hd hc) ⟨o,es,ho,dd⟩
  refine call_max_walk (hit _ _ ?_)
  refine ⟨_,_,_,_,_,_,_,rfl,W,st,fun b hb'=>?_,by omega,CmpOf.ints_gt (fun i=>(ns[i]?).getD 0) hval,fun v h' tk hP hk=>?_⟩
  · show b<(s.heap.push _).objs.size
    rw [Heap.size_push]
    rcases List.mem_cons.mp hb' with rfl | hb'
    · exact Nat.lt_succ_self _
    · rw [List.mem_singleton.mp hb'];exact Nat.lt_succ_of_lt (Heap.lt_size ho)
  · rw [hn] at hP
    have ab:=argBest_gt (fun i=>(ns[i]?).getD 0) (ns.length - 1)
    obtain ⟨n,t,e,rfl⟩:=key_int hkv hP
    have em:n=Ma.maxL ns:=Ma.maxL_uniq (List.mem_of_getElem? e) fun m hm=>by
      obtain ⟨j,hj⟩:=List.getElem?_of_mem hm
      have hjl:=(List.getElem?_eq_some_iff.mp hj).1
      have a2:=ab.2 j (by omega)
      simp only [hj,e,Option.getD_some] at a2
      exact a2
    subst em
    exact ⟨.int _,H,I.kept (t':=tk) (h':=h') (fun b o e=>hk b o (fun hI=>absurd (Heap.lt_size e) (by rw [List.mem_singleton.mp hI];exact Nat.lt_irrefl _)) (Heap.get?_push_of_some _ e)),⟨_,rfl⟩,q⟩
theorem call_minD (hc:X.calm=true):CallR X (.builtin "min") (fun xs H Q=>∃ (a:Addr) (kvs:List (Key×V)) (ns:List Int),xs=[.ref a]∧Rd H a (.dK kvs)∧kvs.map (·.1)=ns.map Sum.inl∧0<ns.length∧Q (.int (Ma.minL ns)) H):=by
  intro pins s σ H xs us Q I r h
  obtain ⟨a,kvs,ns,rfl,e,hk,hne,q⟩:=h
  obtain ⟨u,rfl,ru⟩:=vals1 r
  cases ru
  obtain ⟨z,hd,vs,rel,o,es,ep,ho,dd⟩:=dk_rd I.hok e
  have hkv:vs.map (·.1)=ns.map Sum.inl:=by rw [← rel.keys];exact hk
  have hn:vs.length=ns.length:=by simpa using congrArg List.length hkv
  have KS:=PySem.W.kdl_dict (prog:=X.prog) (w:=X.w) (ep:=ep) (kvs:=vs) (knd:=mixKind X.prog X.w) hd
  have hval:∀ (i:Nat) (v:Value),(∃ k x,vs[i]?=some (k,x)∧(mixKind X.prog X.w).is k v=true)→∃ t,v=.int ((fun i=>(ns[i]?).getD 0) i) t:=fun i v hP=>by
    obtain ⟨n,t,e,rfl⟩:=key_int hkv hP
    exact ⟨t,by simp [e]⟩
  obtain ⟨oI,St,hit,W,st⟩:=KS.iter X.A.in1 s (I.ok.hd hc) ⟨o,es,ho,dd⟩
  refine call_min_walk (hit _ _ ?_)
  refine ⟨_,_,_,_,_,_,_,rfl,W,st,fun b hb'=>?_,by omega,CmpOf.ints_lt (fun i=>(ns[i]?).getD 0) hval,fun v h' tk hP hk=>?_⟩
  · show b<(s.heap.push _).objs.size
    rw [Heap.size_push]
    rcases List.mem_cons.mp hb' with rfl | hb'
    · exact Nat.lt_succ_self _
    · rw [List.mem_singleton.mp hb'];exact Nat.lt_succ_of_lt (Heap.lt_size ho)
  · rw [hn] at hP
    have ab:=argBest_lt (fun i=>(ns[i]?).getD 0) (ns.length - 1)
    obtain ⟨n,t,e,rfl⟩:=key_int hkv hP
    have em:n=Ma.minL ns:=Ma.minL_uniq (List.mem_of_getElem? e) fun m hm=>by
      obtain ⟨j,hj⟩:=List.getElem?_of_mem hm
      have hjl:=(List.getElem?_eq_some_iff.mp hj).1
      have a2:=ab.2 j (by omega)
      simp only [hj,e,Option.getD_some] at a2
      exact a2
    subst em
    exact ⟨.int _,H,I.kept (t':=tk) (h':=h') (fun b o e=>hk b o (fun hI=>absurd (Heap.lt_size e) (by rw [List.mem_singleton.mp hI];exact Nat.lt_irrefl _)) (Heap.get?_push_of_some _ e)),⟨_,rfl⟩,q⟩
end
end L2
namespace Hv
open PySem L2
noncomputable def runs (f:Int→Int) (lo:Int) (n:Nat):List V:=(List.range (n+1)).map fun k=>V.int (Mq.sm f lo k)
theorem runs_len (f:Int→Int) (lo:Int) (n:Nat):(runs f lo n).length=n+1:=by simp [runs]
theorem runs_succ (f:Int→Int) (lo:Int) (n:Nat):runs f lo (n+1)=runs f lo n++[.int (Mq.sm f lo (n+1))]:=by
  unfold runs
  rw [List.range_succ (n:=n+1),List.map_append]
  rfl
theorem runs_at {f:Int→Int} {lo:Int} {n k:Nat} (h:k≤n):(runs f lo n)[k]?=some (.int (Mq.sm f lo k)):=by
  unfold runs
  rw [List.getElem?_map,List.getElem?_range (by lia)]
  rfl
theorem runs_last (f:Int→Int) (lo:Int):∀ n:Nat,atI (runs f lo n) (-1)=some (.int (Mq.sm f lo n))
  | 0=>atI_last [] (V.int (Mq.sm f lo 0))
  | n+1=>by rw [runs_succ];exact atI_last _ _
theorem pairG {α β:Type} {R:α→β→Prop}:∀ {as:List α} {bs:List β},Paired R as bs→∀ {i:Nat} {a:α},as[i]?=some a→∃ b,bs[i]?=some b∧R a b
  | _,_,.cons h t,0,a,e=>by cases e;exact ⟨_,rfl,h⟩
  | _,_,.cons h t,i+1,a,e=>by
    rw [List.getElem?_cons_succ] at e
    obtain ⟨b,h1,h2⟩:=pairG t e
    exact ⟨b,by rw [List.getElem?_cons_succ];exact h1,h2⟩
noncomputable def spRunning:Sp:=fun vs H Q _=>∃ (q:Addr) (g:List (Int×Int)) (lo hi:Int),vs=[.ref q,.int lo,.int hi]∧H q=some (.dK (intsD g))∧-5000≤lo∧lo≤5000∧-5000≤hi∧hi≤5000∧
  ∀ r H',H r=none→Same H H'→H' r=some (.lst (runs (Me.gv g) lo (hi+1 - lo).toNat))→Q (.ref r) H'
noncomputable abbrev RunsAt (H:Hp) (lo:Int) (n:Nat) (rs:List Addr) (rows:List (List (Int×Int))):Prop:=Paired (fun r row=>H r=some (.lst (runs (fun t=>Me.gv row t) lo n))) rs rows
theorem RunsAt.keep {H H':Hp} {lo:Int} {n:Nat} {rs:List Addr} {rows:List (List (Int×Int))} (s:Same H H') (h:RunsAt H lo n rs rows):RunsAt H' lo n rs rows:=L2.Paired.mapP h fun q row e=>s _ _ e
noncomputable abbrev WaysG (H:Hp) (qs:List Addr) (gs:List (List (Int×Int))):Prop:=Paired (fun q g=>H q=some (.dK (intsD g))) qs gs
theorem WaysG.keep {H H':Hp} {qs:List Addr} {gs:List (List (Int×Int))} (h:WaysG H qs gs) (s:Same H H'):WaysG H' qs gs:=L2.Paired.mapP h fun q g e=>s _ _ e
noncomputable def spWithin:Sp:=fun vs H Q _=>∃ (p:Addr) (rs:List Addr) (rows:List (List (Int×Int))) (lo:Int) (n s e:Nat),vs=[.ref p,.int s,.int e]∧H p=some (.lst (rs.map V.ref))∧RunsAt H lo n rs rows∧(∀ row∈rows,Me.DOk row)∧n≤20000∧s≤e∧e≤n∧
  Q (.int (Mq.pr (Me.fG rows) (lo+s) (e - s))) H
section
variable {P:Program} {w:World} {K:PySem.W.Frag} {mg:Str→Option Value} {base:Heap}
theorem scRunning:FnScope ["ways","low","high","counts","total"] ["ways","low","high"] (defScope sRunning):=⟨rfl,rfl,rfl,by decide +kernel,rfl,by decide +kernel,by decide +kernel⟩
theorem ok_running {f:Addr} {fd:FuncData} (F:Fun K "running_counts" "running_counts" sRunning f fd) (T:Txt mg):FnOk P w K mg base CX0 1 f fd ["ways","low","high"] spRunning:=by
  refine F.ok scRunning (fun vs H Q E h=>?_) (fun cdv A outer s H vs Q E hr h=>?_)
  · obtain ⟨q,g,lo,hi,rfl,_⟩:=h;rfl
  · obtain ⟨q,g,lo,hi,rfl,hq,a1,a2,a3,a4,k⟩:=h
    have nd:=scRunning.nd
    have hu:=hu_of hr
    refine ⟨_,pss_cons (ps_set (i:=3) nd rfl (Or.inl rfl) (pe_lst (pa_cons pe_int pa_nil)))
      (pss_cons (ps_for PassesOwn.never rfl (pi_range2 (by rfl) T.range (pa_cons (pv 1) (pa_cons (pe_op op_add (pv 2) pe_int) pa_nil))) (pg_name (i:=4) nd rfl (Or.inl rfl))
        (pss_one (ps_expr (pe_bm PySem.F.plainAttrs_list PySem.F.slot_list_append PySem.F.type_list_append mt_append (pv 3) (pa_cons (pe_op op_add (ixl (pv 3) (pe_un un_neg pe_int)) (pe_dget2 hu (pv 0) (pv 4) pe_int ⟨rfl,rfl,rfl,rfl⟩)) pa_nil)))))
      (pss_one (ps_ret (pv 3)))),?_⟩
    refine ⟨sz (by simp),fun r hr'=>?_⟩
    have s0:=same_upd (o:=.lst [.int 0]) hr'
    refine ⟨_,rfl,_,rfl,_,_,rfl,rfl,_,_,rfl,⟨by lia,by lia,by lia,by lia⟩,?_⟩
    refine for_range (n:=(hi+1 - lo).toNat) (fun i σ H2=>∃ v4,σ=[some (.ref q),some (.int lo),some (.int hi),some (.ref r),v4]∧Same H H2∧H2 r=some (.lst (runs (Me.gv g) lo i))) ⟨none,rfl,s0,upd_same⟩ ?_ ?_
    · rintro i σ H2 hi' ⟨v4,rfl,s2,h2⟩
      refine ⟨_,rfl,.inl ⟨rfl,_,SqL.of h2⟩,_,rfl,1,rfl,?_⟩
      have e1:=runs_last (Me.gv g) lo i
      refine r_ixl h2 e1 ⟨_,rfl,q,rfl,.inl ⟨_,.inl (s2 _ _ hq)⟩,_,rfl,_,dget_ints (.inl (s2 _ _ hq)),_,_,rfl,getD_int _,⟨r,_,_,rfl,rfl,h2,szl (by rw [runs_len];lia),_,rfl,same_upd2 s2 hr',?_⟩⟩
      rw [upd_same,runs_succ]
      rfl
    · rintro σ H2 ⟨v4,rfl,s2,h2⟩
      exact ⟨_,rfl,k r H2 hr' s2 h2⟩
theorem refG {qs:List Addr} {i:Nat} {x:V} (hx:(qs.map V.ref)[i]?=some x):∃ q:Addr,qs[i]?=some q∧x=.ref q:=by
  rw [List.getElem?_map] at hx
  cases e:qs[i]? with
  | none=>rw [e] at hx;cases hx
  | some d=>rw [e] at hx;exact ⟨d,rfl,(Option.some.inj hx).symm⟩
theorem sm_diff (f:Int→Int) (lo:Int) {s e:Nat} (h:s≤e):Mq.sm f lo e - Mq.sm f lo s=Mq.sm f (lo+s) (e - s):=by
  obtain ⟨k,rfl⟩:=Nat.exists_eq_add_of_le h
  rw [Mq.sm_add,Nat.add_sub_cancel_left]
  lia
theorem fws_take {rows:List (List (Int×Int))} {i:Nat} {row:List (Int×Int)} (h:rows[i]?=some row) (a:Int) (n:Nat):Mq.pr (Me.fG (rows.take (i+1))) a n=Mq.pr (Me.fG (rows.take i)) a n*Mq.sm (fun t=>Me.gv row t) a n:=by
  unfold Mq.pr Me.fG
  rw [List.take_add_one,h]
  simp
theorem scWithin:FnScope ["running_by_part","start","end","many","running"] ["running_by_part","start","end"] (defScope sWithin):=⟨rfl,rfl,rfl,by decide +kernel,rfl,by decide +kernel,by decide +kernel⟩
theorem ok_within {f:Addr} {fd:FuncData} (F:Fun K "ways_within" "ways_within" sWithin f fd):FnOk P w K mg base CX0 1 f fd ["running_by_part","start","end"] spWithin:=by
  refine F.ok scWithin (fun vs H Q E h=>?_) (fun cdv A outer s H vs Q E hr h=>?_)
  · obtain ⟨p,rs,rows,lo,n,s,e,rfl,_⟩:=h;rfl
  · obtain ⟨p,rs,rows,lo,n,st,e,rfl,hp,ra,hrs,hn,hse,hen,k⟩:=h
    have nd:=scWithin.nd
    refine ⟨_,pss_cons (ps_set (i:=3) nd rfl (Or.inl rfl) pe_int)
      (pss_cons (ps_for PassesOwn.never rfl (pi_list (pv 0)) (pg_name (i:=4) nd rfl (Or.inl rfl))
        (pss_one (ps_set (i:=3) nd rfl (Or.inl rfl) (pe_op op_mul (pv 3) (pe_op op_sub (ixl (pv 4) (pv 2)) (ixl (pv 4) (pv 1)))))))
      (pss_one (ps_ret (pv 3)))),?_⟩
    refine ⟨_,rfl,p,rfl,⟨_,SqL.of hp⟩,for_list (K:=K) (a:=p) (xs:=rs.map V.ref) (fun i σ H'=>∃ v4,σ=[some (.ref p),some (.int st),some (.int e),some (.int (Mq.pr (Me.fG (rows.take i)) (lo+st) (e - st))),v4]∧H=H')
      ⟨none,rfl,rfl⟩ (fun i σ H' _ h=>by obtain ⟨_,_,e⟩:=h;rw [← e];exact SqL.of hp) ?_ ?_⟩
    · rintro i x σ H' hx ⟨v4,rfl,rfl⟩
      obtain ⟨q,hq,rfl⟩:∃ q:Addr,rs[i]?=some q∧x=.ref q:=by
        rw [List.getElem?_map] at hx
        cases e:rs[i]? with
        | none=>rw [e] at hx;cases hx
        | some d=>rw [e] at hx;exact ⟨d,rfl,(Option.some.inj hx).symm⟩
      obtain ⟨row,hj,hrow⟩:=pairG ra hq
      have hl:=hrs row (List.mem_of_getElem? hj)
      have bd:=Me.sm_bd (f:=fun t=>Me.gv row t) hl.val (lo+st) (e - st)
      refine ⟨_,rfl,_,rfl,_,rfl,r_ixl hrow (atI_nat (runs_at (by lia))) ⟨_,rfl,_,rfl,r_ixl hrow (atI_nat (runs_at (by lia))) ⟨_,_,rfl,rfl,?_⟩⟩⟩
      dsimp only
      rw [sm_diff _ _ hse]
      refine ⟨_,_,rfl,rfl,.inr ⟨by lia,by lia⟩,some (.ref q),?_,rfl⟩
      rw [fws_take hj]
      rfl
    · rintro σ H' ⟨v4,rfl,rfl⟩
      have el:(rs.map V.ref).length=rows.length:=by rw [List.length_map];exact ra.length
      rw [el,List.take_length]
      exact ⟨_,rfl,k⟩
noncomputable def spSpread:Sp:=fun vs H Q _=>∃ (p:Addr) (qs:List Addr) (rows:List (List (Int×Int))) (d:Nat),vs=[.ref p,.int d]∧H p=some (.lst (qs.map V.ref))∧WaysG H qs rows∧0<rows.length∧rows.length≤4∧(∀ row∈rows,Me.DOk row)∧
  ∀ H',Same H H'→Q (.int (Me.nearG rows d)) H'
theorem scSpread:FnScope ["ways_by_part","width","leasts","greatests","reach","first","last","running_by_part","count","start","end"] ["ways_by_part","width"] (defScope sSpreadW):=⟨rfl,rfl,rfl,by decide +kernel,rfl,by decide +kernel,by decide +kernel⟩
theorem ok_spread {f:Addr} {fd:FuncData} (F:Fun K "count_spread_within" "count_spread_within" sSpreadW f fd) (T:Txt mg) (DR:Def P w K mg base 1 "running_counts" ["ways","low","high"] spRunning) (DW:Def P w K mg base 1 "ways_within" ["running_by_part","start","end"] spWithin) :
    FnOk P w K mg base CX0 2 f fd ["ways_by_part","width"] spSpread:=by
  refine F.ok scSpread (fun vs H Q E h=>?_) (fun cdv A outer s H vs Q E hr h=>?_)
  · obtain ⟨p,qs,rows,d,rfl,_⟩:=h;rfl
  · obtain ⟨p,qs,rows,d,rfl,hp,wa,hne,h4,hrs,k⟩:=h
    have nd:=scSpread.nd
    refine ⟨_,pss_cons (ps_cmp1 (defScope sSpreadW) ["ways_by_part","width","leasts","greatests","reach","first","last","running_by_part","count","start","end"] [] [] (i:=2) nd rfl (Or.inl rfl) rfl (pi_list (pv 0)) (fun cl C s H fp=>pf_nil) (fun cl C s H fp=>pe_callB (call_minD rfl) (by rfl) T.min boot_min (pa_cons (pv 0) pa_nil)) (by decide +kernel) (by rfl))
      (pss_cons (ps_cmp1 (defScope sSpreadW) ["ways_by_part","width","leasts","greatests","reach","first","last","running_by_part","count","start","end"] [] [] (i:=3) nd rfl (Or.inl rfl) rfl (pi_list (pv 0)) (fun cl C s H fp=>pf_nil) (fun cl C s H fp=>pe_callB (call_maxD rfl) (by rfl) T.max boot_max (pa_cons (pv 0) pa_nil)) (by decide +kernel) (by rfl))
      (pss_cons (ps_set (i:=4) nd rfl (Or.inr rfl) (pe_callB (call_min2 rfl) (by rfl) T.min boot_min (pa_cons (pv 1) (pa_cons (pe_op op_sub (pe_callB (call_maxL rfl) (by rfl) T.max boot_max (pa_cons (pv 3) pa_nil)) (pe_callB (call_minL rfl) (by rfl) T.min boot_min (pa_cons (pv 2) pa_nil))) pa_nil))))
      (pss_cons (ps_set (i:=5) nd rfl (Or.inr rfl) (pe_callB (call_max2 rfl) (by rfl) T.max boot_max (pa_cons (pe_callB (call_minL rfl) (by rfl) T.min boot_min (pa_cons (pv 2) pa_nil)) (pa_cons (pe_op op_sub (pe_callB (call_maxL rfl) (by rfl) T.max boot_max (pa_cons (pv 2) pa_nil)) (pv 4)) pa_nil))))
      (pss_cons (ps_set (i:=6) nd rfl (Or.inr rfl) (pe_callB (call_minL rfl) (by rfl) T.min boot_min (pa_cons (pv 3) pa_nil)))
      (pss_cons (ps_cmp1 (defScope sSpreadW) ["ways_by_part","width","leasts","greatests","reach","first","last","running_by_part","count","start","end"] ["first","last","reach"] [5,6,4] (i:=7) nd rfl (Or.inl rfl) rfl (pi_list (pv 0)) (fun cl C s H fp=>pf_nil) (fun cl C s H fp=>pe_fn DR hr (by rfl) (pa_cons (pv 0) (pa_cons (pv 1) (pa_cons (pe_op op_add (pv 2) (pv 3)) pa_nil)))) (by decide +kernel) (by rfl))
      (pss_cons (ps_set (i:=8) nd rfl (Or.inl rfl) pe_int)
      (pss_cons (ps_for PassesOwn.never rfl (pi_range1 (by rfl) T.range (pa_cons (pe_op op_add (pe_op op_sub (pv 6) (pv 5)) pe_int) pa_nil)) (pg_name (i:=9) nd rfl (Or.inl rfl))
        (pss_cons (ps_set (i:=10) nd rfl (Or.inl rfl) (pe_op op_add (pe_op op_add (pv 9) (pv 4)) pe_int))
        (pss_one (ps_aug (i:=8) nd rfl (Or.inl rfl) (pe_op op_sub (pe_fn DW hr (by rfl) (pa_cons (pv 7) (pa_cons (pv 9) (pa_cons (pv 10) pa_nil)))) (pe_fn DW hr (by rfl) (pa_cons (pv 7) (pa_cons (pe_op op_add (pv 9) pe_int) (pa_cons (pv 10) pa_nil))))) ip_add))))
      (pss_one (ps_ret (pv 8)))))))))),?_⟩
    have hql:qs.length=rows.length:=wa.length
    -- the least sums
    refine ⟨_,rfl,p,rfl,⟨_,SqL.of hp⟩,comp_list (K:=K) (a:=p) (xs:=qs.map V.ref) (fun i ys H2=>ys=(Me.losG (rows.take i)).map V.int∧H=H2) ⟨rfl,rfl⟩ (fun i ys H2 _ h=>by rw [← h.2];exact SqL.of hp) ?_ ?_⟩
    · rintro i x ys H2 hx ⟨rfl,rfl⟩
      obtain ⟨q,hq,rfl⟩:=refG hx
      have hil:i<qs.length:=(List.getElem?_eq_some_iff.mp hq).1
      obtain ⟨g,hj,hg⟩:=pairG wa hq
      have kl:=(hrs g (List.mem_of_getElem? hj)).ne
      refine ⟨szl (by simp [Me.losG];lia),_,rfl,q,intsD g,Me.keys g,rfl,.inl hg,by simp [intsD,Me.keys],kl,?_,rfl⟩
      rw [List.take_add_one,hj]
      simp [Me.losG]
    rintro ys H2 ⟨rfl,rfl⟩ l1 h1
    rw [List.length_map,hql,List.take_length]
    have s1:=same_upd (o:=.lst ((Me.losG rows).map V.int)) h1
    have u1:upd H l1 (.lst ((Me.losG rows).map V.int)) l1=some (.lst ((Me.losG rows).map V.int)):=upd_same
    generalize upd H l1 (.lst ((Me.losG rows).map V.int))=H1 at s1 u1⊢
    have hp1:=s1 _ _ hp
    have wa1:=wa.keep s1
    -- the greatest sums
    refine ⟨_,rfl,p,rfl,⟨_,SqL.of hp1⟩,comp_list (K:=K) (a:=p) (xs:=qs.map V.ref) (fun i ys H2=>ys=(Me.hisG (rows.take i)).map V.int∧H1=H2) ⟨rfl,rfl⟩ (fun i ys H2 _ h=>by rw [← h.2];exact SqL.of hp1) ?_ ?_⟩
    · rintro i x ys H2 hx ⟨rfl,rfl⟩
      obtain ⟨q,hq,rfl⟩:=refG hx
      have hil:i<qs.length:=(List.getElem?_eq_some_iff.mp hq).1
      obtain ⟨g,hj,hg⟩:=pairG wa1 hq
      have kl:=(hrs g (List.mem_of_getElem? hj)).ne
      refine ⟨szl (by simp [Me.hisG];lia),_,rfl,q,intsD g,Me.keys g,rfl,.inl hg,by simp [intsD,Me.keys],kl,?_,rfl⟩
      rw [List.take_add_one,hj]
      simp [Me.hisG]
    rintro ys H2 ⟨rfl,rfl⟩ l2 h2
    rw [List.length_map,hql,List.take_length]
    have s2:=s1.trans (same_upd (o:=.lst ((Me.hisG rows).map V.int)) h2)
    have u2:upd H1 l2 (.lst ((Me.hisG rows).map V.int)) l2=some (.lst ((Me.hisG rows).map V.int)):=upd_same
    have u1':=same_upd (o:=.lst ((Me.hisG rows).map V.int)) h2 _ _ u1
    generalize upd H1 l2 (.lst ((Me.hisG rows).map V.int))=H2 at s2 u2 u1'⊢
    have nl:0<(Me.losG rows).length:=by rw [Me.losG,List.length_map];exact hne
    have nh:0<(Me.hisG rows).length:=by rw [Me.hisG,List.length_map];exact hne
    have B:=Me.boundsG hne hrs
    obtain ⟨B1,B2,B3,B4,B5,B6⟩:=B
    refine ⟨_,rfl,_,rfl,l2,_,rfl,SqL.of u2,nh,_,rfl,l1,_,rfl,SqL.of u1',nl,_,_,rfl,rfl,_,_,rfl,?_⟩
    dsimp only
    obtain ⟨r,hr'⟩:∃ r:Nat,(r:Int)=if Ma.maxL (Me.hisG rows) - Ma.minL (Me.losG rows)<(d:Int) then Ma.maxL (Me.hisG rows) - Ma.minL (Me.losG rows) else (d:Int):=⟨(if Ma.maxL (Me.hisG rows) - Ma.minL (Me.losG rows)<(d:Int) then Ma.maxL (Me.hisG rows) - Ma.minL (Me.losG rows) else (d:Int)).toNat,by split <;> lia⟩
    rw [← hr']
    have rb:(r:Int)≤1620:=by split at hr' <;> lia
    refine ⟨_,rfl,l1,_,rfl,SqL.of u1',nl,_,rfl,l1,_,rfl,SqL.of u1',nl,_,rfl,_,_,rfl,rfl,_,_,rfl,?_⟩
    dsimp only
    generalize hf:(if Ma.maxL (Me.losG rows) - (r:Int)>Ma.minL (Me.losG rows) then Ma.maxL (Me.losG rows) - (r:Int) else Ma.minL (Me.losG rows))=first
    have fb : -2430≤first∧first≤810:=by rw [← hf];split <;> lia
    refine ⟨_,rfl,l2,_,rfl,SqL.of u2,nh,?_⟩
    generalize hg0:Ma.minL (Me.hisG rows)=last
    rw [hg0] at B4 B5
    have hp2:=s2 _ _ hp
    have wa2:=wa.keep s2
    obtain ⟨n,hn⟩:∃ n:Nat,n=(last+(r:Int)+1 - first).toNat:=⟨_,rfl⟩
    -- the running counts
    refine ⟨_,rfl,p,rfl,⟨_,SqL.of hp2⟩,comp_list (K:=K) (a:=p) (xs:=qs.map V.ref) (fun i ys H3=>∃ ts,ys=ts.map V.ref∧ts.length=i∧Same H2 H3∧RunsAt H3 first n ts (rows.take i))
      ⟨[],rfl,rfl,Same.refl _,.nil⟩ (fun i ys H3 _ h=>by obtain ⟨_,_,_,s',_⟩:=h;exact SqL.of (s' _ _ hp2)) ?_ ?_⟩
    · rintro i x ys H3 hx ⟨ts,rfl,htl,s3,ra⟩
      obtain ⟨q,hq,rfl⟩:=refG hx
      have hil:i<qs.length:=(List.getElem?_eq_some_iff.mp hq).1
      obtain ⟨g,hj,hg⟩:=pairG wa2 hq
      refine ⟨szl (by rw [List.length_map];lia),_,rfl,_,rfl,_,rfl,_,rfl,_,_,rfl,rfl,q,g,first,last+(r:Int),rfl,s3 _ _ hg,by lia,by lia,by lia,by lia,fun r' H4 hr4 s4 h4=>?_⟩
      refine ⟨ts++[r'],by simp,by simp [htl],s3.trans s4,?_⟩
      rw [List.take_add_one,hj]
      rw [← hn] at h4
      exact Paired.snoc (ra.keep s4) h4
    rintro ys H3 ⟨ts,rfl,htl,s3,ra⟩ l3 h3
    rw [List.length_map,hql,List.take_length] at ra
    have s4:=(s2.trans s3).trans (same_upd (o:=.lst (ts.map V.ref)) h3)
    have ra4:=ra.keep (same_upd (o:=.lst (ts.map V.ref)) h3)
    have u3:upd H3 l3 (.lst (ts.map V.ref)) l3=some (.lst (ts.map V.ref)):=upd_same
    generalize upd H3 l3 (.lst (ts.map V.ref))=H4 at s4 ra4 u3⊢
    refine ⟨_,rfl,_,rfl,_,_,rfl,rfl,_,_,rfl,rfl,_,rfl,by lia,by lia,?_⟩
    have en:(last - first+1).toNat=(Ma.minL (Me.hisG rows) - first+1).toNat:=by rw [hg0]
    refine for_range (lo:=0) (n:=(last - first+1).toNat) (fun i σ H5=>∃ v9 v10,σ=[some (.ref p),some (.int d),some (.ref l1),some (.ref l2),some (.int r),some (.int first),some (.int last),some (.ref l3),some (.int (Mq.sm (Mq.gat (Me.fG rows) r) first i)),v9,v10]∧H4=H5) ⟨none,none,?_,rfl⟩ ?_ ?_
    · rfl
    · rintro i σ H5 hi ⟨v9,v10,rfl,rfl⟩
      refine ⟨_,rfl,_,rfl,_,_,rfl,rfl,_,_,rfl,rfl,?_⟩
      dsimp only
      refine ⟨_,rfl,_,rfl,_,rfl,_,rfl,l3,ts,rows,first,n,i,i+r+1,?_,u3,ra4,hrs,by lia,by lia,by lia,?_⟩
      · show [V.ref l3,V.int (0+(i:Int)),V.int (0+(i:Int)+(r:Int)+1)]=_
        rw [Int.zero_add]
        push_cast
        rfl
      refine ⟨_,rfl,_,rfl,_,_,rfl,rfl,_,rfl,l3,ts,rows,first,n,i+1,i+r+1,?_,u3,ra4,hrs,by lia,by lia,by lia,?_⟩
      · show [V.ref l3,V.int (0+(i:Int)+1),V.int (0+(i:Int)+(r:Int)+1)]=_
        rw [Int.zero_add]
        push_cast
        rfl
      refine ⟨_,_,rfl,rfl,_,_,rfl,rfl,some (.int (0+(i:Int))),some (.int (0+(i:Int)+(r:Int)+1)),?_,rfl⟩
      have e1:i+r+1 - i=r+1:=by lia
      have e2:i+r+1 - (i+1)=r:=by lia
      have e3:first+((i+1:Nat):Int)=first+(i:Int)+1:=by push_cast;lia
      rw [e1,e2,e3]
      rfl
    · rintro σ H5 ⟨v9,v10,rfl,rfl⟩
      refine ⟨_,rfl,?_⟩
      rw [en,Me.near_progG hne hrs hr' hf.symm]
      exact k _ s4
end
end Hv
namespace Ma
noncomputable def num (b:Nat) (ds:List Nat):Nat:=ds.foldl (fun x d=>x*b+d) 0
theorem num_snoc (b d:Nat) (l:List Nat):num b (l++[d])=num b l*b+d:=by
  unfold num
  rw [List.foldl_append]
  rfl
theorem num_take {b i d:Nat} {ds:List Nat} (h:ds[i]?=some d):num b (ds.take (i+1))=num b (ds.take i)*b+d:=by
  rw [List.take_add_one,h]
  exact num_snoc b d _
noncomputable def behind (b n L:Nat):Nat:=num b (dws b n L L).reverse
theorem num_dws {b n L:Nat} (hb:0<b) (hn:n<b ^ L):num b (dws b n L L)=n:=by
  have:∀ i,i≤L→num b ((dws b n L L).take i)=n / b ^ (L - i):=by
    intro i
    induction i with
    | zero=>intro _;rw [List.take_zero,Nat.sub_zero,Nat.div_eq_of_lt hn];rfl
    | succ i ih =>
      intro hi
      have hi':i<L:=hi
      have g:(dws b n L L)[i]?=some (n / b ^ (L - 1 - i) % b):=by simp [dws,hi']
      rw [num_take g,ih (by lia)]
      have e1:L - i=(L - 1 - i)+1:=by lia
      have e2:L - (i+1)=L - 1 - i:=by lia
      rw [e1,e2,Nat.pow_succ,← Nat.div_div_eq_div_mul,Nat.mul_comm]
      exact Nat.div_add_mod _ _
  have h:=this L (Nat.le_refl _)
  rw [Nat.sub_self,Nat.pow_zero,Nat.div_one,List.take_of_length_le (by rw [dws_len];exact Nat.le_refl _)] at h
  exact h
end Ma
namespace Hv
open PySem L2
theorem nat_at {ds:List Nat} {i:Nat} {x:V} (h:(natV ds)[i]?=some x):∃ y:Nat,ds[i]?=some y∧x=.int (y:Int):=by
  simp only [natV,List.getElem?_map] at h
  cases e:ds[i]? with
  | none=>rw [e] at h;cases h
  | some d=>rw [e] at h;exact ⟨d,rfl,(Option.some.inj h).symm⟩
noncomputable def spNumberOf:Sp:=fun vs H Q _=>∃ (b:Nat) (r:Addr) (ds:List Nat),vs=[.int b,.ref r]∧b≤16∧H r=some (.lst (natV ds))∧Q (.int ((Ma.num b ds:Nat):Int)) H
section
variable {P:Program} {w:World} {K:PySem.W.Frag} {mg:Str→Option Value} {base:Heap}
theorem scNumberOf:FnScope ["base","figures","number","figure"] ["base","figures"] (defScope sNumberOf):=⟨rfl,rfl,rfl,by decide +kernel,rfl,by decide +kernel,by decide +kernel⟩
theorem ok_numberof {f:Addr} {fd:FuncData} (F:Fun K "number_of" "number_of" sNumberOf f fd):FnOk P w K mg base CX0 1 f fd ["base","figures"] spNumberOf:=by
  refine F.ok scNumberOf (fun vs H Q E h=>?_) (fun cdv A outer s H vs Q E hr h=>?_)
  · obtain ⟨b,r,ds,rfl,_⟩:=h;rfl
  · obtain ⟨b,r,ds,rfl,hb,hd,k⟩:=h
    have nd:=scNumberOf.nd
    refine ⟨_,pss_cons (ps_set (i:=2) nd rfl (Or.inl rfl) pe_int)
      (pss_cons (ps_for PassesOwn.never rfl (pi_list (pv 1)) (pg_name (i:=3) nd rfl (Or.inl rfl)) (pss_one (ps_set (i:=2) nd rfl (Or.inl rfl) (pe_op op_add (pe_op op_mul (pv 2) (pv 0)) (pv 3)))))
      (pss_one (ps_ret (pv 2)))),?_⟩
    refine ⟨_,rfl,r,rfl,⟨_,SqL.of hd⟩,for_list (K:=K) (a:=r) (xs:=natV ds) (fun i σ H'=>H=H'∧∃ v3,σ=[some (.int b),some (.ref r),some (.int ((Ma.num b (ds.take i):Nat):Int)),v3])
      ⟨rfl,none,rfl⟩ (fun i σ H' _ h=>by rw [← h.1];exact SqL.of hd) ?_ ?_⟩
    · rintro i x σ H' hx ⟨rfl,v3,rfl⟩
      obtain ⟨y,hy,rfl⟩:=nat_at hx
      refine ⟨_,rfl,_,rfl,_,_,rfl,rfl,.inr ⟨by lia,by lia⟩,_,rfl,_,_,rfl,rfl,rfl,some (.int (y:Int)),?_⟩
      rw [Ma.num_take hy]
      push_cast
      rfl
    · rintro σ H' ⟨rfl,v3,rfl⟩
      refine ⟨_,rfl,?_⟩
      have e:(natV ds).length=ds.length:=by simp [natV]
      rw [e,List.take_length]
      exact k
end
end Hv
namespace L2
open PySem PySem.Spec PyProof.Rows
noncomputable abbrev IsTri (h:Heap) (T:Addr) (a b c:Value):Prop:=h.get? T=some {cls:=.type "tuple",data:=.seq #[a,b,c]}
theorem typeCall_zip_3 (a b c:Value):checkTypeCall "zip" ⟨[a,b,c],[]⟩=pure ():=by kernel_rfl
theorem newCall_zip_3 (a b c:Value):checkBuiltinCall "zip.__new__" ⟨[.type "zip",a,b,c],[]⟩=pure ():=by kernel_rfl
theorem args_init_4 (a b c d:Value):argsOk "object.__init__" ⟨[a,b,c,d],[]⟩:=by
  unfold argsOk;rw [signature?_of (id:="object.__init__") (n:=['_','_','t','i','n','i','_','_']) (o:=['t','c','e','j','b','o']) (by kernel_rfl) F.owner_object];kernel_rfl
structure Zd (z TI TO i1 i2 i3 l1 l2 l3:Addr):Prop where
  nd:[z,TI,TO,i1,i2,i3].Nodup
  f1:l1∉[z,TO,i1,i2,i3]
  f2:l2∉[z,TO,i1,i2,i3]
  f3:l3∉[z,TO,i1,i2,i3]
section
variable {prog:Program} {w:World} {A:Around} {E:Value→Shared→Prop} {s:Shared}
theorem updTri {T:Addr} {a b c x:Value} {k:Nat} {Q:Unit→Shared→Prop} (hT:IsTri s.heap T a b c)
    (h:∀ h',h'.get? T=some {cls:=.type "tuple",data:=.seq ((#[a,b,c]:Array Value).setIfInBounds k x)}→Heap.SameBut T s.heap h'→Q () {s with heap:=h'}) :
    wpAny (model prog w) A (updateSeq T (·.setIfInBounds k x)) Q E s:=by
  refine wpAny_updateSeq hT rfl (h _ ?_ (Heap.SameBut.update ..))
  rw [Heap.get?_update_self _ hT rfl]
  simp [Obj.mapSeq]
theorem next3_item {z TI TO i1 i2 i3 l1 l2 l3:Addr} {k1 k2 k3:Nat} {xs ys zs:Array Value} {x y u a b c:Value} {Q:Value→Shared→Prop} (D:Zd z TI TO i1 i2 i3 l1 l2 l3)
    (hz:IsZip s.heap z TI TO .none) (hTI:IsTri s.heap TI (.ref i1) (.ref i2) (.ref i3)) (hTO:IsTri s.heap TO a b c)
    (h1:s.heap.IsListIter i1 l1 k1) (h2:s.heap.IsListIter i2 l2 k2) (h3:s.heap.IsListIter i3 l3 k3) (hl1:s.heap.IsList l1 xs) (hl2:s.heap.IsList l2 ys) (hl3:s.heap.IsList l3 zs) (hx:xs[k1]?=some x) (hy:ys[k2]?=some y) (hu:zs[k3]?=some u)
    (hQ:∀ h',IsZip h' z TI TO (rawInt s.heap.objs.size)→IsTri h' TO x y u→h'.IsListIter i1 l1 (k1+1)→h'.IsListIter i2 l2 (k2+1)→h'.IsListIter i3 l3 (k3+1)→IsTri h' s.heap.objs.size x y u→h'.objs.size=s.heap.objs.size+1→
      (∀ c o,c∉[z,TO,i1,i2,i3]→s.heap.get? c=some o→h'.get? c=some o)→Q (.ref s.heap.objs.size) {s with heap:=h'}) :
    wpAny (model prog w) A (Builtin.«zip.__next__» ⟨[.ref z],[]⟩) (fun fin s'=>∃ v,fin=.done (.ret v)∧Q v s') E s:=by
  have nd:=D.nd
  simp only [List.nodup_cons,List.mem_cons,List.not_mem_nil,or_false,not_or,not_false_eq_true,List.nodup_nil,and_true] at nd
  obtain ⟨⟨zTI,zTO,zi1,zi2,zi3⟩,⟨TITO,TIi1,TIi2,TIi3⟩,⟨TOi1,TOi2,TOi3⟩,⟨i12,i13⟩,i23⟩:=nd
  have f1:=D.f1
  have f2:=D.f2
  have f3:=D.f3
  simp only [List.mem_cons,List.not_mem_nil,or_false,not_or] at f1 f2 f3
  obtain ⟨l1z,l1TO,l1i1,l1i2,l1i3⟩:=f1
  obtain ⟨l2z,l2TO,l2i1,l2i2,l2i3⟩:=f2
  obtain ⟨l3z,l3TO,l3i1,l3i2,l3i3⟩:=f3
  show wpAny _ _ (field (.ref z) 2>>=_) _ _ _
  refine wpAny_bind (wpAny_field hz rfl (x:=.bool false) rfl ?_)
  show wpAny _ _ (field (.ref z) 3>>=_) _ _ _
  refine wpAny_bind (wpAny_field hz rfl (x:=.ref TI) rfl ?_)
  refine wpAny_bind (wpAny_seqItems hTI rfl ?_)
  show wpAny _ _ (Builtin.SmallTypes.ownedTupleIsFree (.ref z)>>=_) _ _ _
  refine wpAny_bind ?_
  unfold Builtin.SmallTypes.ownedTupleIsFree
  refine wpAny_bind (wpAny_field hz rfl (x:=.none) rfl (wpAny_pure ?_))
  simp only [if_true]
  refine wpAny_bind (wpAny_rule ?_)
  refine wpAny_bind (wpAny_field hz rfl (x:=.ref TO) rfl ?_)
  refine wpAny_bind (wpAny_setField_rec hz (by simp) fun H1 hz1 s1=>?_)
  replace hz1:IsZip H1 z TI TO .ellipsis:=hz1
  refine wpAny_bind ?_
  simp only [List.zipIdx_cons,List.zipIdx_nil,List.forIn_cons,List.forIn_nil]
  refine wpAny_bind (wpAny_bind (wpAny_onRaise ?_))
  show wpAny _ _ (Builtin.SmallTypes.nextOf (.ref i1)>>=_) _ _ _
  refine wpAny_bind (wpAny_nextOf_list_item (h1.extBut s1.extBut (Ne.symm zi1)) (hl1.extBut s1.extBut l1z) hx fun H2 q2 s2=>wpAny_pure ?_)
  have t2:IsTri H2 TO a b c:=s2.extBut _ _ TOi1 (s1.extBut _ _ (Ne.symm zTO) hTO)
  refine wpAny_bind (wpAny_seqItems t2 rfl ?_)
  refine wpAny_bind (updTri t2 fun H3 t3 s3=>?_)
  replace t3:IsTri H3 TO x b c:=t3
  refine wpAny_bind (wpAny_letGo (wpAny_pure ?_))
  refine wpAny_bind (wpAny_bind (wpAny_onRaise ?_))
  show wpAny _ _ (Builtin.SmallTypes.nextOf (.ref i2)>>=_) _ _ _
  have up3:∀ c o,c≠z→c≠TO→c≠i1→s.heap.get? c=some o→H3.get? c=some o:=fun c o c1 c2 c3 e=>s3.extBut _ _ c2 (s2.extBut _ _ c3 (s1.extBut _ _ c1 e))
  refine wpAny_bind (wpAny_nextOf_list_item (h2.at fun o e=>up3 _ o (Ne.symm zi2) (Ne.symm TOi2) (Ne.symm i12) e) (Heap.IsList.at hl2 fun o e=>up3 _ o l2z l2TO l2i1 e) hy fun H4 q4 s4=>wpAny_pure ?_)
  have t4:IsTri H4 TO x b c:=s4.extBut _ _ TOi2 t3
  refine wpAny_bind (wpAny_seqItems t4 rfl ?_)
  refine wpAny_bind (updTri t4 fun H5 t5 s5=>?_)
  replace t5:IsTri H5 TO x y c:=t5
  refine wpAny_bind (wpAny_letGo (wpAny_pure ?_))
  refine wpAny_bind (wpAny_bind (wpAny_onRaise ?_))
  show wpAny _ _ (Builtin.SmallTypes.nextOf (.ref i3)>>=_) _ _ _
  have up5:∀ c o,c≠z→c≠TO→c≠i1→c≠i2→s.heap.get? c=some o→H5.get? c=some o:=fun c o c1 c2 c3 c4 e=>s5.extBut _ _ c2 (s4.extBut _ _ c4 (up3 c o c1 c2 c3 e))
  refine wpAny_bind (wpAny_nextOf_list_item (h3.at fun o e=>up5 _ o (Ne.symm zi3) (Ne.symm TOi3) (Ne.symm i13) (Ne.symm i23) e) (Heap.IsList.at hl3 fun o e=>up5 _ o l3z l3TO l3i1 l3i2 e) hu fun H6 q6 s6=>wpAny_pure ?_)
  have t6:IsTri H6 TO x y c:=s6.extBut _ _ TOi3 t5
  refine wpAny_bind (wpAny_seqItems t6 rfl ?_)
  refine wpAny_bind (updTri t6 fun H7 t7 s7=>?_)
  replace t7:IsTri H7 TO x y u:=t7
  refine wpAny_bind (wpAny_letGo (wpAny_pure (wpAny_pure ?_)))
  refine wpAny_bind (wpAny_seqItems t7 rfl ?_)
  refine wpAny_bind (wpAny_newTuple ?_)
  have hsz:H7.objs.size=s.heap.objs.size:=by rw [s7.1,s6.1,s5.1,s4.1,s3.1,s2.1,s1.1]
  have z3:IsZip H3 z TI TO .ellipsis:=s3.extBut _ _ zTO (s2.extBut _ _ zi1 hz1)
  have z7:IsZip H7 z TI TO .ellipsis:=s7.extBut _ _ zTO (s6.extBut _ _ zi3 (s5.extBut _ _ zTO (s4.extBut _ _ zi2 z3)))
  have up7:∀ c o,c∉[z,TO,i1,i2,i3]→s.heap.get? c=some o→H7.get? c=some o:=fun c o hc e=>by
    simp only [List.mem_cons,List.not_mem_nil,or_false,not_or] at hc
    obtain ⟨c1,c2,c3,c4,c5⟩:=hc
    exact s7.extBut _ _ c2 (s6.extBut _ _ c5 (up5 c o c1 c2 c3 c4 e))
  have r1:H7.IsListIter i1 l1 (k1+1):=q2.at fun o e=>s7.extBut _ _ (Ne.symm TOi1) (s6.extBut _ _ i13 (s5.extBut _ _ (Ne.symm TOi1) (s4.extBut _ _ i12 (s3.extBut _ _ (Ne.symm TOi1) e))))
  have r2:H7.IsListIter i2 l2 (k2+1):=q4.at fun o e=>s7.extBut _ _ (Ne.symm TOi2) (s6.extBut _ _ i23 (s5.extBut _ _ (Ne.symm TOi2) e))
  have r3:H7.IsListIter i3 l3 (k3+1):=q6.at fun o e=>s7.extBut _ _ (Ne.symm TOi3) e
  have zlt:z<H7.objs.size:=Heap.lt_size z7
  show wpAny _ _ (Builtin.SmallTypes.ownedTupleHandOut (.ref z) (.ref H7.objs.size)>>=_) _ _ _
  refine wpAny_bind ?_
  unfold Builtin.SmallTypes.ownedTupleHandOut
  have z8:IsZip (H7.push {cls:=.type "tuple",data:=.seq #[x,y,u]}) z TI TO .ellipsis:=Heap.get?_push_of_some _ z7
  refine wpAny_bind (wpAny_setField_rec z8 (by simp) fun H8 w8 s8=>?_)
  replace w8:IsZip H8 z TI TO (rawInt H7.objs.size):=w8
  refine wpAny_setField_rec w8 (by simp) fun H9 w9 s9=>?_
  replace w9:IsZip H9 z TI TO (rawInt H7.objs.size):=w9
  have up:∀ c o,c≠z→H7.get? c=some o→H9.get? c=some o:=fun c o c1 e=>s9.extBut _ _ c1 (s8.extBut _ _ c1 (Heap.get?_push_of_some _ e))
  have t9:IsTri H9 H7.objs.size x y u:=s9.extBut _ _ (Nat.ne_of_gt zlt) (s8.extBut _ _ (Nat.ne_of_gt zlt) (Heap.get?_push_size _ rfl))
  have zz:H9.objs.size=H7.objs.size+1:=by rw [s9.1,s8.1,Heap.size_push]
  rw [hsz] at w9 t9 zz
  refine wpAny_pure ⟨_,rfl,?_⟩
  show Q (.ref H7.objs.size) _
  rw [hsz]
  exact hQ H9 w9 (up _ _ (Ne.symm zTO) t7) (r1.at fun o e=>up _ o (Ne.symm zi1) e) (r2.at fun o e=>up _ o (Ne.symm zi2) e) (r3.at fun o e=>up _ o (Ne.symm zi3) e) t9 zz fun c o hc e=>up c o (fun q=>hc (by simp [q])) (up7 c o hc e)
end
end L2
namespace L2
open PySem PySem.Spec PyProof.Rows
section
variable {prog:Program} {w:World} {A:Around} {E:Value→Shared→Prop} {s:Shared}
theorem next3_end {z TI TO i1 i2 i3 l1 l2 l3:Addr} {k1:Nat} {xs:Array Value} {a b c:Value} {Q:Fin→Shared→Prop} (hh:A.handled=none) (D:Zd z TI TO i1 i2 i3 l1 l2 l3)
    (hz:IsZip s.heap z TI TO .none) (hTI:IsTri s.heap TI (.ref i1) (.ref i2) (.ref i3)) (hTO:IsTri s.heap TO a b c)
    (h1:s.heap.IsListIter i1 l1 k1) (hl1:s.heap.IsList l1 xs) (hend:xs[k1]?=none)
    (hE:∀ h' e,(∀ c o,c∉[z,TO,i1,i2,i3]→s.heap.get? c=some o→h'.get? c=some o)→(∃ o,h'.get? e=some o∧o.cls=.type "StopIteration")→E (.ref e) {s with heap:=h'}) :
    wpAny (model prog w) A (Builtin.«zip.__next__» ⟨[.ref z],[]⟩) Q E s:=by
  have nd:=D.nd
  simp only [List.nodup_cons,List.mem_cons,List.not_mem_nil,or_false,not_or,not_false_eq_true,List.nodup_nil,and_true] at nd
  obtain ⟨⟨zTI,zTO,zi1,zi2,zi3⟩,⟨TITO,TIi1,TIi2,TIi3⟩,⟨TOi1,TOi2,TOi3⟩,⟨i12,i13⟩,i23⟩:=nd
  have f1:=D.f1
  simp only [List.mem_cons,List.not_mem_nil,or_false,not_or] at f1
  obtain ⟨l1z,l1TO,l1i1,l1i2,l1i3⟩:=f1
  show wpAny _ _ (field (.ref z) 2>>=_) _ _ _
  refine wpAny_bind (wpAny_field hz rfl (x:=.bool false) rfl ?_)
  show wpAny _ _ (field (.ref z) 3>>=_) _ _ _
  refine wpAny_bind (wpAny_field hz rfl (x:=.ref TI) rfl ?_)
  refine wpAny_bind (wpAny_seqItems hTI rfl ?_)
  show wpAny _ _ (Builtin.SmallTypes.ownedTupleIsFree (.ref z)>>=_) _ _ _
  refine wpAny_bind ?_
  unfold Builtin.SmallTypes.ownedTupleIsFree
  refine wpAny_bind (wpAny_field hz rfl (x:=.none) rfl (wpAny_pure ?_))
  simp only [if_true]
  refine wpAny_bind (wpAny_rule ?_)
  refine wpAny_bind (wpAny_field hz rfl (x:=.ref TO) rfl ?_)
  refine wpAny_bind (wpAny_setField_rec hz (by simp) fun H1 hz1 s1=>?_)
  replace hz1:IsZip H1 z TI TO .ellipsis:=hz1
  refine wpAny_bind ?_
  simp only [List.zipIdx_cons,List.zipIdx_nil,List.forIn_cons,List.forIn_nil]
  refine wpAny_bind (wpAny_bind (wpAny_onRaise ?_))
  show wpAny _ _ (Builtin.SmallTypes.nextOf (.ref i1)>>=_) _ _ _
  refine wpAny_bind (wpAny_nextOf_list_end hh (h1.extBut s1.extBut (Ne.symm zi1)) (hl1.extBut s1.extBut l1z) hend fun H2 e s2 he=>?_)
  obtain ⟨oe,hoe,hce⟩:=he
  have hz2:IsZip H2 z TI TO .ellipsis:=s2 _ _ zi1 hz1
  have hez:e≠z:=fun x=>by subst x;rw [hz2] at hoe;cases hoe;simp at hce
  refine wpAny_setField_rec hz2 (by simp) fun H3 _ s3=>hE H3 e (fun c o hc x=>?_) ⟨oe,s3.extBut _ _ hez hoe,hce⟩
  simp only [List.mem_cons,List.not_mem_nil,or_false,not_or] at hc
  exact s3.extBut _ _ hc.1 (s2 _ _ hc.2.2.1 (s1.extBut _ _ hc.1 x))
theorem pyNext3_item {z TI TO i1 i2 i3 l1 l2 l3:Addr} {k1 k2 k3:Nat} {xs ys zs:Array Value} {x y u a b c:Value} {Q:Option Value→Shared→Prop} (D:Zd z TI TO i1 i2 i3 l1 l2 l3)
    (hz:IsZip s.heap z TI TO .none) (hTI:IsTri s.heap TI (.ref i1) (.ref i2) (.ref i3)) (hTO:IsTri s.heap TO a b c)
    (h1:s.heap.IsListIter i1 l1 k1) (h2:s.heap.IsListIter i2 l2 k2) (h3:s.heap.IsListIter i3 l3 k3) (hl1:s.heap.IsList l1 xs) (hl2:s.heap.IsList l2 ys) (hl3:s.heap.IsList l3 zs) (hx:xs[k1]?=some x) (hy:ys[k2]?=some y) (hu:zs[k3]?=some u)
    (hQ:∀ h',IsZip h' z TI TO (rawInt s.heap.objs.size)→IsTri h' TO x y u→h'.IsListIter i1 l1 (k1+1)→h'.IsListIter i2 l2 (k2+1)→h'.IsListIter i3 l3 (k3+1)→IsTri h' s.heap.objs.size x y u→h'.objs.size=s.heap.objs.size+1→
      (∀ c o,c∉[z,TO,i1,i2,i3]→s.heap.get? c=some o→h'.get? c=some o)→Q (some (.ref s.heap.objs.size)) {s with heap:=h'}) :
    wpAny (model prog w) A (pyNext (.ref z)) Q E s:=by
  have hT:s.TypeIs (.ref z) "zip":=⟨_,hz,rfl⟩
  unfold pyNext
  exact wpAny_bind (wpAny_attempt (wpAny_callSpecial?_slot (name:=Str.ofString "__next__") hT F.slot_zip_next
    (wpAny_call_entry F.slot_zip_next hT F.entry_zip_next
      (next3_item D hz hTI hTO h1 h2 h3 hl1 hl2 hl3 hx hy hu fun h' a1 a2 a3 a4 a5 a6 a7 a8=>wpAny_pure (hQ h' a1 a2 a3 a4 a5 a6 a7 a8)) (F.args_zip_next_1 _))))
theorem pyNext3_end {z TI TO i1 i2 i3 l1 l2 l3:Addr} {k1:Nat} {xs:Array Value} {a b c:Value} {Q:Option Value→Shared→Prop} (hh:A.handled=none) (D:Zd z TI TO i1 i2 i3 l1 l2 l3)
    (hz:IsZip s.heap z TI TO .none) (hTI:IsTri s.heap TI (.ref i1) (.ref i2) (.ref i3)) (hTO:IsTri s.heap TO a b c)
    (h1:s.heap.IsListIter i1 l1 k1) (hl1:s.heap.IsList l1 xs) (hend:xs[k1]?=none)
    (hQ:∀ h',(∀ c o,c∉[z,TO,i1,i2,i3]→s.heap.get? c=some o→h'.get? c=some o)→Q none {s with heap:=h'}):wpAny (model prog w) A (pyNext (.ref z)) Q E s:=by
  have hT:s.TypeIs (.ref z) "zip":=⟨_,hz,rfl⟩
  unfold pyNext
  refine wpAny_bind (wpAny_attempt (wpAny_callSpecial?_slot (name:=Str.ofString "__next__") hT F.slot_zip_next
    (wpAny_call_entry F.slot_zip_next hT F.entry_zip_next (next3_end hh D hz hTI hTO h1 hl1 hend fun h' e hk he=>?_) (F.args_zip_next_1 _))))
  obtain ⟨o,ho,hc⟩:=he
  refine wpAny_bind (wpAny_isInstance (T:="StopIteration") (b:=true) ⟨o,ho,hc⟩ isSubtype_stop ?_)
  exact wpAny_pure (hQ _ hk)
end
noncomputable abbrev z3a (h:Heap) (l1:Addr):Heap:=h.push {cls:=.type "list_iterator",data:=.fields #[.ref l1,.int 0 0]}
noncomputable abbrev z3b (h:Heap) (l1 l2:Addr):Heap:=(z3a h l1).push {cls:=.type "list_iterator",data:=.fields #[.ref l2,.int 0 0]}
noncomputable abbrev z3c (h:Heap) (l1 l2 l3:Addr):Heap:=(z3b h l1 l2).push {cls:=.type "list_iterator",data:=.fields #[.ref l3,.int 0 0]}
noncomputable abbrev z3d (h:Heap) (l1 l2 l3:Addr):Heap:=(z3c h l1 l2 l3).push {cls:=.type "tuple",data:=.seq #[.ref h.objs.size,.ref (z3a h l1).objs.size,.ref (z3b h l1 l2).objs.size]}
noncomputable abbrev z3e (h:Heap) (l1 l2 l3:Addr):Heap:=(z3d h l1 l2 l3).push {cls:=.type "tuple",data:=.seq #[.none,.none,.none]}
noncomputable abbrev z3f (h:Heap) (l1 l2 l3:Addr):Heap:=(z3e h l1 l2 l3).push {cls:=.type "zip",data:=.fields #[.none,.bool false,.bool false,.ref (z3c h l1 l2 l3).objs.size,.ref (z3d h l1 l2 l3).objs.size]}
theorem meets_zip3 (l1 l2 l3:Addr) (xs ys zs:Array Value) :
    Meets (Builtin.«zip.__new__» ⟨[.type "zip",.ref l1,.ref l2,.ref l3],[]⟩) (fun _ R s=>s.heap.IsList l1 xs∧s.heap.IsList l2 ys∧s.heap.IsList l3 zs∧
      R (.ok (.ret (.ref (z3e s.heap l1 l2 l3).objs.size))) {s with heap:=z3f s.heap l1 l2 l3}) :=
  .of_wp fun prog w A R s h=>by
    obtain ⟨hp,g,d,tk,os⟩:=s;obtain ⟨hl1,hl2,hl3,h⟩:=h
    have hsub:=sub_zip
    have hL1:Heap.IsList (Shared.heap ⟨hp,g,d,tk,os⟩) l1 xs:=hl1
    have hL2:Heap.IsList (Shared.heap ⟨hp.push {cls:=.type "list_iterator",data:=.fields #[.ref l1,.int 0 0]},g,d,tk,os⟩) l2 ys:=Heap.IsList.push hl2 _
    have hL3:Heap.IsList (Shared.heap ⟨(hp.push {cls:=.type "list_iterator",data:=.fields #[.ref l1,.int 0 0]}).push {cls:=.type "list_iterator",data:=.fields #[.ref l2,.int 0 0]},g,d,tk,os⟩) l3 zs:=Heap.IsList.push (Heap.IsList.push hl3 _) _
    wp_walk using wpAny_pyIter_list hL1,wpAny_pyIter_list hL2,wpAny_pyIter_list hL3
    exact ⟨_,rfl,h⟩
end L2
namespace L2
open PySem PySem.Spec PyProof.Rows
theorem nd6 (n:Nat):List.Nodup [n+5,n+3,n+4,n,n+1,n+2]:=by
  simp only [List.nodup_cons,List.mem_cons,List.not_mem_nil,or_false,not_or,not_false_eq_true,List.nodup_nil,and_true]
  refine ⟨⟨?_,?_,?_,?_,?_⟩,⟨?_,?_,?_,?_⟩,⟨?_,?_,?_⟩,⟨?_,?_⟩,?_⟩ <;> lia
theorem zd_new {n l1 l2 l3:Addr} (h1:l1<n) (h2:l2<n) (h3:l3<n):Zd (n+5) (n+3) (n+4) n (n+1) (n+2) l1 l2 l3:=by
  have h1':(l1:Nat)<n:=h1
  have h2':(l2:Nat)<n:=h2
  have h3':(l3:Nat)<n:=h3
  have key:∀ l:Nat,l<n→l∉[(n:Nat)+5,n+4,n,n+1,n+2]:=fun l hl z=>by
    simp only [List.mem_cons,List.not_mem_nil,or_false] at z
    lia
  refine ⟨?_,key l1 h1,key l2 h2,key l3 h3⟩
  exact nd6 n
section
variable {prog:Program} {w:World} {A:Around} {E:Value→Shared→Prop} {s:Shared}
theorem call_zip_3 {l1 l2 l3:Addr} {xs ys zs:Array Value} {Q:Value→Shared→Prop} (hl1:s.heap.IsList l1 xs) (hl2:s.heap.IsList l2 ys) (hl3:s.heap.IsList l3 zs)
    (h:∀ h',IsZip h' (s.heap.objs.size+5) (s.heap.objs.size+3) (s.heap.objs.size+4) .none→IsTri h' (s.heap.objs.size+3) (.ref s.heap.objs.size) (.ref (s.heap.objs.size+1)) (.ref (s.heap.objs.size+2))→
      IsTri h' (s.heap.objs.size+4) .none .none .none→h'.IsListIter s.heap.objs.size l1 0→h'.IsListIter (s.heap.objs.size+1) l2 0→h'.IsListIter (s.heap.objs.size+2) l3 0→
      (∀ c o,s.heap.get? c=some o→h'.get? c=some o)→Q (.ref (s.heap.objs.size+5)) {s with heap:=h'}) :
    wpAny (model prog w) A (call (.type "zip") [.ref l1,.ref l2,.ref l3]) Q E s:=by
  refine callType_new F.called_zip (by decide) (typeCall_zip_3 _ _ _) (newCall_zip_3 _ _ _) (fun obj=>args_init_4 obj _ _ _) F.entry_zip_new
    (meets_zip3 l1 l2 l3 xs ys zs) ⟨hl1,hl2,hl3,?_⟩
  have e1:(z3a s.heap l1).objs.size=s.heap.objs.size+1:=Heap.size_push ..
  have e2:(z3b s.heap l1 l2).objs.size=s.heap.objs.size+2:=by rw [Heap.size_push,e1]
  have e3:(z3c s.heap l1 l2 l3).objs.size=s.heap.objs.size+3:=by rw [Heap.size_push,e2]
  have e4:(z3d s.heap l1 l2 l3).objs.size=s.heap.objs.size+4:=by rw [Heap.size_push,e3]
  have e5:(z3e s.heap l1 l2 l3).objs.size=s.heap.objs.size+5:=by rw [Heap.size_push,e4]
  have g6:(z3f s.heap l1 l2 l3).get? (z3e s.heap l1 l2 l3).objs.size=some _:=Heap.get?_push_size _ rfl
  have g5:(z3f s.heap l1 l2 l3).get? (z3d s.heap l1 l2 l3).objs.size=some _:=Heap.get?_push_of_some _ (Heap.get?_push_size _ rfl)
  have g4:(z3f s.heap l1 l2 l3).get? (z3c s.heap l1 l2 l3).objs.size=some _:=Heap.get?_push_of_some _ (Heap.get?_push_of_some _ (Heap.get?_push_size _ rfl))
  have g3:(z3f s.heap l1 l2 l3).get? (z3b s.heap l1 l2).objs.size=some _:=Heap.get?_push_of_some _ (Heap.get?_push_of_some _ (Heap.get?_push_of_some _ (Heap.get?_push_size _ rfl)))
  have g2:(z3f s.heap l1 l2 l3).get? (z3a s.heap l1).objs.size=some _:=Heap.get?_push_of_some _ (Heap.get?_push_of_some _ (Heap.get?_push_of_some _ (Heap.get?_push_of_some _ (Heap.get?_push_size _ rfl))))
  have g1:(z3f s.heap l1 l2 l3).get? s.heap.objs.size=some _:=Heap.get?_push_of_some _ (Heap.get?_push_of_some _ (Heap.get?_push_of_some _ (Heap.get?_push_of_some _ (Heap.get?_push_of_some _ (Heap.get?_push_size _ rfl)))))
  show _∧_
  rw [e3,e4,e5] at g6
  rw [e1,e2,e3] at g4
  rw [e4] at g5
  rw [e2] at g3
  rw [e1] at g2
  rw [e5]
  exact ⟨⟨_,g6,rfl⟩,h _ g6 g4 g5 ⟨_,g1,rfl,rfl⟩ ⟨_,g2,rfl,rfl⟩ ⟨_,g3,rfl,rfl⟩ fun c o x =>
    Heap.get?_push_of_some _ (Heap.get?_push_of_some _ (Heap.get?_push_of_some _ (Heap.get?_push_of_some _ (Heap.get?_push_of_some _ (Heap.get?_push_of_some _ x)))))⟩
end
noncomputable def Itz3 (K:PySem.W.Frag) (a b c:Addr):It :=
  ⟨fun i H=>∃ xs ys zs x y u,SqL K H a xs∧SqL K H b ys∧SqL K H c zs∧xs[i]?=some x∧ys[i]?=some y∧zs[i]?=some u,
   fun i H v H'=>∃ t x y u,v=.ref t∧H t=none∧(∀ xs,SqL K H a xs→xs[i]?=some x)∧(∀ ys,SqL K H b ys→ys[i]?=some y)∧(∀ zs,SqL K H c zs→zs[i]?=some u)∧H'=upd H t (.tup [x,y,u]),
   fun i H=>∃ xs,SqL K H a xs∧xs.length≤i⟩
theorem turn_zip3 {P:Program} {w:World} {K:PySem.W.Frag} {elts:List Expr} {x1} {pos:Pos} (a b c z TI TO i1 i2 i3:Addr) (D:Zd z TI TO i1 i2 i3 a b c):Turn P w K (.Tuple elts x1 pos) (Itz3 K a b c) [z,TI,TO,i1,i2,i3] z
    (fun i h=>IsZip h z TI TO .none∧IsTri h TI (.ref i1) (.ref i2) (.ref i3)∧(∃ u v t,IsTri h TO u v t)∧h.IsListIter i1 a i∧h.IsListIter i2 b i∧h.IsListIter i3 c i) where
  mem:=by simp
  obj:=fun i h st e hb=>by
    obtain ⟨h1,h2,⟨u,v,t,h3⟩,⟨o4,h4,_,d4⟩,⟨o5,h5,_,d5⟩,⟨o6,h6,_,d6⟩⟩:=st
    simp only [List.mem_cons,List.not_mem_nil,or_false] at hb
    rcases hb with rfl | rfl | rfl | rfl | rfl | rfl
    · exact ⟨_,h1,fun v z=>by cases z⟩
    · exact ⟨_,h2,fun v z=>by cases z⟩
    · exact ⟨_,h3,fun v z=>by cases z⟩
    · exact ⟨o4,h4,fun v z=>by rw [d4] at z;cases z⟩
    · exact ⟨o5,h5,fun v z=>by rw [d5] at z;cases z⟩
    · exact ⟨o6,h6,fun v z=>by rw [d6] at z;cases z⟩
  keep:=fun i h h' st k=>by
    obtain ⟨h1,h2,⟨u,v,t,h3⟩,h4,h5,h6⟩:=st
    exact ⟨k z (by simp) _ h1,k TI (by simp) _ h2,⟨u,v,t,k TO (by simp) _ h3⟩,h4.at fun o q=>k i1 (by simp) o q,h5.at fun o q=>k i2 (by simp) o q,h6.at fun o q=>k i3 (by simp) o q⟩
  item:=by
    intro X hP hw hK hc i pins s σ H E I hf st hg
    subst hP hw hK
    have nd:=D.nd
    simp only [List.nodup_cons,List.mem_cons,List.not_mem_nil,or_false,not_or,not_false_eq_true,List.nodup_nil,and_true] at nd
    obtain ⟨⟨zTI,zTO,zi1,zi2,zi3⟩,⟨TITO,TIi1,TIi2,TIi3⟩,⟨TOi1,TOi2,TOi3⟩,⟨i12,i13⟩,i23⟩:=nd
    obtain ⟨h1,h2,⟨u0,v0,t0,h3⟩,h4,h5,h6⟩:=st
    obtain ⟨xs,ys,zs,x,y,y3,hqa,hqb,hqc,hx,hy,hy3⟩:=hg
    obtain ⟨its,rv,p,hz⟩:=I.list hqa
    obtain ⟨jts,rw',p',hz'⟩:=I.list hqb
    obtain ⟨kts,rx',p3,hz3⟩:=I.list hqc
    obtain ⟨u,hu,ru⟩:=rv.get hx
    obtain ⟨v,hv,rv'⟩:=rw'.get hy
    obtain ⟨t,ht,rt'⟩:=rx'.get hy3
    have e1:=Heap.lt_size h1
    have fpo:∀ e∈[z,TI,TO,i1,i2,i3],∃ o,s.heap.get? e=some o:=fun e hb=>by
      obtain ⟨o4,q4,_⟩:=h4
      obtain ⟨o5,q5,_⟩:=h5
      obtain ⟨o6,q6,_⟩:=h6
      simp only [List.mem_cons,List.not_mem_nil,or_false] at hb
      rcases hb with rfl | rfl | rfl | rfl | rfl | rfl
      · exact ⟨_,h1⟩
      · exact ⟨_,h2⟩
      · exact ⟨_,h3⟩
      · exact ⟨_,q4⟩
      · exact ⟨_,q5⟩
      · exact ⟨_,q6⟩
    refine pyNext3_item D h1 h2 h3 h4 h5 h6 p.isList p'.isList p3.isList (x:=u) (y:=v) (u:=t) (by simpa using hu) (by simpa using hv) (by simpa using ht) fun h' g1 g2 g3 g4 g4' g5 g6 g7=>⟨_,rfl,?_⟩
    refine wpAny_letOwnedTupleGo_zip g1 fun h2' g8 g9=>?_
    have kk:∀ e o,e∉[z,TI,TO,i1,i2,i3]→s.heap.get? e=some o→h2'.get? e=some o:=fun e o hb q=>by
      simp only [List.mem_cons,List.not_mem_nil,or_false,not_or] at hb
      exact g9.extBut e o hb.1 (g7 e o (by simp only [List.mem_cons,List.not_mem_nil,or_false,not_or];exact ⟨hb.1,hb.2.2.1,hb.2.2.2.1,hb.2.2.2.2.1,hb.2.2.2.2.2⟩) q)
    have tT:h2'.get? s.heap.objs.size=some {cls:=.type "tuple",data:=.seq #[u,v,t]}:=g9.extBut _ _ (Nat.ne_of_gt e1) g5
    have I1:=I.turnedNew (t':=s.toks) (T:=s.heap.objs.size) (o:=.tup [x,y,y3]) kk hf (Nat.le_refl _) ⟨by show 3≤sizeLine;decide,[u,v,t],.cons ru (.cons rv' (.cons rt' .nil)),⟨_,tT,rfl,_,rfl⟩⟩
    have hn:H s.heap.objs.size=none:=I.hok.fresh (Nat.le_refl _)
    refine ⟨.ref s.heap.objs.size,_,I1,rfl,⟨_,x,y,y3,rfl,hn,fun zs hy'=>by rw [I.list_inj hy' hqa];exact hx,fun zs hy'=>by rw [I.list_inj hy' hqb];exact hy,fun zs hy'=>by rw [I.list_inj hy' hqc];exact hy3,rfl⟩,⟨g8,?_,⟨u,v,t,?_⟩,?_,?_,?_⟩,fun e hb=>?_⟩
    · exact g9.extBut _ _ (Ne.symm zTI) (g7 _ _ (by simp only [List.mem_cons,List.not_mem_nil,or_false,not_or];exact ⟨Ne.symm zTI,TITO,TIi1,TIi2,TIi3⟩) h2)
    · exact g9.extBut _ _ (Ne.symm zTO) g2
    · exact g3.extBut g9.extBut (Ne.symm zi1)
    · exact g4.extBut g9.extBut (Ne.symm zi2)
    · exact g4'.extBut g9.extBut (Ne.symm zi3)
    · obtain ⟨f0,_⟩:=hf e hb
      obtain ⟨o,q⟩:=fpo e hb
      rw [upd_ne (Nat.ne_of_lt (Heap.lt_size q))];exact f0
  done:=by
    intro X hP hw hK hc i pins s σ H E I hf st hg
    subst hP hw hK
    obtain ⟨h1,h2,⟨u0,v0,t0,h3⟩,h4,h5,h6⟩:=st
    obtain ⟨xs,hqa,hx⟩:=hg
    obtain ⟨its,rv,p,hz⟩:=I.list hqa
    have hl:=rv.length
    refine pyNext3_end (I.ok.hd hc) D h1 h2 h3 h4 p.isList (by simp;lia) fun h' eb=>⟨rfl,I.turnedL (t':=s.toks) (ch:=[z,TI,TO,i1,i2,i3]) (fun e o hb q=>eb e o (fun z'=>hb ?_) q) hf⟩
    simp only [List.mem_cons,List.not_mem_nil,or_false] at z'⊢
    rcases z' with r | r | r | r | r <;> simp [r]
  self:=fun _ _ _ _ _ st h=>wpAny_pyIter_zip st.1 h
section
variable {X:Cx} {l l2 l3:Expr} {tl tl2 tl3:TE} {elts:List Expr} {p pos tpos:Pos}
noncomputable def iZip3 (K:PySem.W.Frag) (tl tl2 tl3:TE):TI:=fun σ H R=>tl σ H fun x H1=>tl2 σ H1 fun y H2=>tl3 σ H2 fun u H3=>∃ a b c,x=.ref a∧y=.ref b∧u=.ref c∧(∃ xs,SqL K H3 a xs)∧(∃ ys,SqL K H3 b ys)∧(∃ zs,SqL K H3 c zs)∧R (Itz3 K a b c) H3
theorem pi_zip3 {x1} (hg:Gl X "zip") (hm:X.mg "zip"=none) (hl:PE X l tl) (hl2:PE X l2 tl2) (hl3:PE X l3 tl3) (hs:starEach [l,l2,l3] X.env=[(false,eval l X.env),(false,eval l2 X.env),(false,eval l3 X.env)]:=by rfl) (hs2:starEach [l2,l3] X.env=[(false,eval l2 X.env),(false,eval l3 X.env)]:=by rfl) :
    PI X (.Tuple elts x1 tpos) (.Call (.Name "zip" p) [l,l2,l3] [] pos) (iZip3 X.K tl tl2 tl3):=by
  intro pins s σ H R I h
  refine Call_ (ld_blt I hg hm boot_zip (PyProof.Rows.callWith_type1 ?_ (by rw [hs,hs2]) (by rw [hs2];rfl)))
  rw [hs]
  show wpAny _ _ (spliced ((false,eval l X.env)::(false,eval l2 X.env)::(false,eval l3 X.env)::backTo pos (starEach [] X.env))) _ _ s
  refine Calls.spliced_cons (thn (hl pins s σ H _ I h) fun u s1 ⟨x,H1,I1,r1,q1⟩=>Calls.spliced_cons (thn (hl2 pins s1 σ H1 _ I1 q1) fun u2 s2 ⟨y,H2,I2,r2,q2⟩=>Calls.spliced_cons (thn (hl3 pins s2 σ H2 _ I2 q2) fun u3 s3 ⟨y3,H3,I3,r3,q3⟩=>Calls.spliced_nil ?_)))
  obtain ⟨a,b,c,rfl,rfl,rfl,⟨xs,hqa⟩,⟨ys,hqb⟩,⟨zs,hqc⟩,q⟩:=q3
  cases r1
  cases r2
  cases r3
  obtain ⟨its,rv,pl,hz⟩:=I3.list hqa
  obtain ⟨jts,rv',pl',hz'⟩:=I3.list hqb
  obtain ⟨kts,rv3,pl3,hz3⟩:=I3.list hqc
  have la:a<s3.heap.objs.size:=by obtain ⟨_,e,_⟩:=pl.isList;exact Heap.lt_size e
  have lb:b<s3.heap.objs.size:=by obtain ⟨_,e,_⟩:=pl'.isList;exact Heap.lt_size e
  have lc:c<s3.heap.objs.size:=by obtain ⟨_,e,_⟩:=pl3.isList;exact Heap.lt_size e
  refine call_zip_3 pl.isList pl'.isList pl3.isList fun h' g1 g2 g3 g4 g5 g6 g7=>?_
  have D:=zd_new la lb lc
  have T:=turn_zip3 (P:=X.prog) (w:=X.w) (K:=X.K) (elts:=elts) (x1:=x1) (pos:=tpos) a b c _ _ _ _ _ _ D
  refine T.self _ 0 _ _ _ ⟨g1,g2,⟨_,_,_,g3⟩,g4,g5,g6⟩ ?_
  refine ⟨s3.heap.objs.size+5,_,_,_,H3,rfl,I3.kept (t':=s3.toks) g7,T,⟨g1,g2,⟨_,_,_,g3⟩,g4,g5,g6⟩,fun e hb=>?_,q⟩
  have hb':s3.heap.objs.size≤e:=by
    simp only [List.mem_cons,List.not_mem_nil,or_false] at hb
    rcases hb with rfl | rfl | rfl | rfl | rfl | rfl
    · exact Nat.le_add_right _ _
    · exact Nat.le_add_right _ _
    · exact Nat.le_add_right _ _
    · exact Nat.le_refl _
    · exact Nat.le_add_right _ _
    · exact Nat.le_add_right _ _
  exact I3.fpOk hb' (I3.hok.fresh hb')
end
theorem for_zip3 {K:PySem.W.Frag} {a b c:Addr} {xs ys zs:List V} {g:TG} {tb:TS} {D:Ends} {σ:St} {H:Hp} (Pv:Nat→St→Hp→Prop) (hlen:xs.length=ys.length) (hlen2:xs.length=zs.length) (h0:Pv 0 σ H) (hl:∀ i σ H,i≤xs.length→Pv i σ H→SqL K H a xs∧SqL K H b ys∧SqL K H c zs)
    (hs:∀ i x y u σ H t,xs[i]?=some x→ys[i]?=some y→zs[i]?=some u→Pv i σ H→H t=none→g (.ref t) σ (upd H t (.tup [x,y,u])) fun σ2 H2=>tb {D with nx:=Pv (i+1),ct:=Pv (i+1),bk:=D.nx} σ2 H2) (hd:∀ σ H,Pv xs.length σ H→D.nx σ H) :
    ∃ W:Nat→Nat→St→Hp→Prop,(∃ m,W 0 m σ H)∧∀ i m σ H,W i m σ H→
      ((Itz3 K a b c).stop i H∧D.nx σ H)∨((Itz3 K a b c).go i H∧∃ N:St→Hp→Prop,(∀ σ' H',N σ' H'→∃ m',m'<m∧W (i+1) m' σ' H')∧∀ x H',(Itz3 K a b c).yld i H x H'→g x σ H' fun σ2 H2=>tb {D with nx:=N,ct:=N,bk:=D.nx} σ2 H2):=by
  refine ⟨fun i m σ H=>m=xs.length - i∧i≤xs.length∧Pv i σ H,⟨xs.length,by simp,Nat.zero_le _,h0⟩,?_⟩
  rintro i m σ H ⟨rfl,hi,p⟩
  obtain ⟨q1,q2,q3⟩:=hl i σ H hi p
  by_cases hlt:i<xs.length
  · have e1:xs[i]?=some xs[i]:=by simp [hlt]
    have e2:ys[i]?=some (ys[i]'(by lia)):=by simp
    have e3:zs[i]?=some (zs[i]'(by lia)):=by simp
    refine .inr ⟨⟨xs,ys,zs,_,_,_,q1,q2,q3,e1,e2,e3⟩,Pv (i+1),fun σ' H' p'=>⟨xs.length - (i+1),by lia,rfl,hlt,p'⟩,fun v H' y=>?_⟩
    obtain ⟨t,x,y,u,rfl,ht,y1,y2,y3,rfl⟩:=y
    exact hs i x y u σ H t (y1 xs q1) (y2 ys q2) (y3 zs q3) p ht
  · have e:i=xs.length:=by lia
    subst e
    exact .inl ⟨⟨xs,q1,Nat.le_refl _⟩,hd σ H p⟩
theorem comp_zipL {K:PySem.W.Frag} {a b:Addr} {xs ys:List V} {G:V→Hp→(List V→Hp→Prop)→List V→Prop} {Fin:List V→Hp→Prop} {H:Hp} (Pv:Nat→List V→Hp→Prop) (hlen:xs.length≤ys.length) (h0:Pv 0 [] H)
    (hl:∀ i zs H,i≤xs.length→Pv i zs H→SqL K H a xs∧SqL K H b ys) (hz:∀ i zs H,i<xs.length→Pv i zs H→zs.length<sizeLine)
    (hs:∀ i x y zs H t,xs[i]?=some x→ys[i]?=some y→Pv i zs H→H t=none→G (.ref t) (upd H t (.tup [x,y])) (Pv (i+1)) zs) (hd:∀ zs H,Pv xs.length zs H→Fin zs H) :
    ∃ W:Nat→Nat→List V→Hp→Prop,(∃ m,W 0 m [] H)∧∀ i m zs H,W i m zs H→
      ((Itz K a b).stop i H∧Fin zs H)∨((Itz K a b).go i H∧zs.length<sizeLine∧∃ Nx:List V→Hp→Prop,(∀ ys' H',Nx ys' H'→∃ m',m'<m∧W (i+1) m' ys' H')∧∀ x H',(Itz K a b).yld i H x H'→G x H' Nx zs):=by
  refine ⟨fun i m zs H=>m=xs.length - i∧i≤xs.length∧Pv i zs H,⟨xs.length,by simp,Nat.zero_le _,h0⟩,?_⟩
  rintro i m zs H ⟨rfl,hi,p⟩
  obtain ⟨q1,q2⟩:=hl i zs H hi p
  by_cases hlt:i<xs.length
  · have e1:xs[i]?=some xs[i]:=by simp [hlt]
    have e2:ys[i]?=some (ys[i]'(by lia)):=by simp
    refine .inr ⟨⟨xs,ys,_,_,q1,q2,e1,e2⟩,hz i zs H hlt p,Pv (i+1),fun ys' H' p'=>⟨xs.length - (i+1),by lia,rfl,hlt,p'⟩,fun v H' y=>?_⟩
    obtain ⟨t,x,y,rfl,ht,y1,y2,rfl⟩:=y
    exact hs i x y zs H t (y1 xs q1) (y2 ys q2) p ht
  · have e:i=xs.length:=by lia
    subst e
    exact .inl ⟨⟨xs,ys,q1,q2,.inl (Nat.le_refl _)⟩,hd zs H p⟩
end L2
namespace Hv
open PySem L2
noncomputable abbrev wz (ds:List Nat) (ws:List Int):List Int:=List.zipWith (fun (d:Nat) (x:Int)=>(d:Int)*x) ds ws
theorem wz_get {ds:List Nat} {ws:List Int} {i d:Nat} {x:Int} (h1:ds[i]?=some d) (h2:ws[i]?=some x):(wz ds ws)[i]?=some ((d:Int)*x):=by
  simp [wz,List.getElem?_zipWith,h1,h2]
theorem int_at {ws:List Int} {i:Nat} {x:V} (h:(ws.map V.int)[i]?=some x):∃ y:Int,ws[i]?=some y∧x=.int y:=by
  rw [List.getElem?_map] at h
  cases e:ws[i]? with
  | none=>rw [e] at h;cases h
  | some d=>rw [e] at h;exact ⟨d,rfl,(Option.some.inj h).symm⟩
noncomputable def spWeighted:Sp:=fun vs H Q _=>∃ (r c:Addr) (ds:List Nat) (ws:List Int),vs=[.ref r,.ref c]∧H r=some (.lst (natV ds))∧H c=some (.lst (ws.map V.int))∧(∀ x∈ws,-9≤x∧x≤9)∧ds.length≤ws.length∧ws.length≤6∧
  ∀ H',Same H H'→Q (.int (wz ds ws).sum) H'
section
variable {P:Program} {w:World} {K:PySem.W.Frag} {mg:Str→Option Value} {base:Heap}
theorem scWeighted:FnScope ["figures","weights"] ["figures","weights"] (defScope sWeighted):=⟨rfl,rfl,rfl,by decide +kernel,rfl,by decide +kernel,by decide +kernel⟩
theorem ok_weighted {f:Addr} {fd:FuncData} (F:Fun K "weighted_sum" "weighted_sum" sWeighted f fd) (T:Txt mg):FnOk P w K mg base CX0 1 f fd ["figures","weights"] spWeighted:=by
  refine F.ok scWeighted (fun vs H Q E h=>?_) (fun cdv A outer s H vs Q E hr h=>?_)
  · obtain ⟨r,c,ds,ws,rfl,_⟩:=h;rfl
  · obtain ⟨r,c,ds,ws,rfl,h1,h2,hw,hl,hl6,k⟩:=h
    have nd2:List.Nodup (["figure","weight"]:List Str):=by decide +kernel
    refine ⟨_,pss_one (ps_ret (pe_callB (call_sumA rfl) (by rfl) T.sum boot_sum (pa_cons (pe_comp (N:=["figure","weight"]) (k:=2) (fr:=[]) (cmpS (sc:=defScope sWeighted) (NX:=["figures","weights"]) (k:=2) (fr:=[]) rfl rfl (by decide +kernel))
        (cmpF (sc:=defScope sWeighted) (NX:=["figures","weights"]) rfl (by decide +kernel)) rfl (pi_zip (by rfl) T.zip (pv 0) (pv 1))
        (fun cl C s H fp=>pg_tupK K rfl rfl (pgs_cons (pg_name (i:=0) nd2 rfl (Or.inl rfl)) (pgs_cons (pg_name (i:=1) nd2 rfl (Or.inl rfl)) pgs_nil))) gk_two (fun cl C s H fp=>pf_nil) (fun cl C s H fp=>pe_op op_mul (pv 0) (pv 1))) pa_nil))),?_⟩
    refine ⟨_,rfl,_,rfl,r,c,rfl,rfl,⟨_,SqL.of h1⟩,⟨_,SqL.of h2⟩,comp_zipL (K:=K) (a:=r) (b:=c) (xs:=natV ds) (ys:=ws.map V.int)
      (fun i zs H'=>zs=((wz ds ws).take i).map V.int∧Same H H') (by simp [natV];lia) ⟨by simp,Same.refl _⟩ (fun i zs H' _ p=>⟨SqL.of (p.2 _ _ h1),SqL.of (p.2 _ _ h2)⟩)
      (fun i zs H' hi p=>szl (by rw [p.1,List.length_map,List.length_take];simp [natV] at hi;lia)) ?_ ?_⟩
    · rintro i x y zs H' t hx hy ⟨rfl,s2⟩ ht
      obtain ⟨d,hd,rfl⟩:=nat_at hx
      obtain ⟨x,hw',rfl⟩:=int_at hy
      have hx9:=hw x (List.mem_of_getElem? hw')
      refine ⟨t,_,rfl,SqT.of upd_same,rfl,_,_,rfl,_,_,rfl,rfl,_,rfl,_,rfl,_,_,rfl,rfl,.inr ⟨by lia,by lia⟩,?_,same_upd2 s2 (s2.free ht)⟩
      rw [List.take_add_one,wz_get hd hw']
      simp
    rintro zs H' ⟨rfl,s2⟩ wl hwl
    have e1:(natV ds).length=(wz ds ws).length:=by simp [natV,wz];lia
    rw [e1,List.take_length]
    exact ⟨wl,_,rfl,SqL.of upd_same,k _ (same_upd2 s2 (s2.free hwl))⟩
end
end Hv
namespace Mq
theorem sm_one {f:Int→Int} {a k:Int}:∀ {n:Nat},a≤k→k<a+n→sm f a n=sm (fun t=>if t=k then 0 else f t) a n+f k
  | 0,h1,h2=>by lia
  | n+1,h1,h2=>by
    simp only [sm]
    by_cases e:a+(n:Int)=k
    · rw [if_pos e,e]
      have:sm f a n=sm (fun t=>if t=k then 0 else f t) a n:=sm_congr fun t _ h=>by
        rw [if_neg (by lia)]
      rw [this]
      lia
    · rw [if_neg e,sm_one (n:=n) h1 (by push_cast at h2;lia)]
      lia
theorem sm_list {a:Int} {n:Nat}:∀ {ks:List Int} {f:Int→Int},ks.Nodup→(∀ k∈ks,a≤k∧k<a+n)→(∀ t,t∉ks→f t=0)→(ks.map f).sum=sm f a n
  | [],f,_,_,z=>by
    rw [sm_zero fun t _ _=>z t (by simp)]
    rfl
  | k::ks,f,nd,h,z=>by
    obtain ⟨n1,n2⟩:=List.nodup_cons.mp nd
    rw [sm_one (f:=f) (h k (by simp)).1 (h k (by simp)).2]
    have ih:=sm_list (a:=a) (n:=n) (ks:=ks) (f:=fun t=>if t=k then 0 else f t) n2 (fun q hq=>h q (by simp [hq])) (fun t ht=>by
      by_cases e:t=k
      · rw [if_pos e]
      · rw [if_neg e];exact z t (by simp [e,ht]))
    rw [← ih,List.map_cons,List.sum_cons]
    have e:ks.map (fun t=>if t=k then 0 else f t)=ks.map f:=List.map_congr_left fun t ht=>if_neg (fun (z:t=k)=>n1 (by rw [← z];exact ht))
    rw [e]
    lia
end Mq
namespace Me
open Mq
theorem prodW_nn (b:Nat) (rows:List (List Int)) (t:Int):0≤prodW b rows t:=prod_nn rows 1 (by decide)
theorem filt_sum {b:Nat} {rows:List (List Int)}:∀ ks:List Int,((ks.filter fun k=>decide (0<prodW b rows k)).map (prodW b rows)).sum=(ks.map (prodW b rows)).sum
  | []=>rfl
  | k::ks=>by
    have ih:=filt_sum (b:=b) (rows:=rows) ks
    by_cases h:0<prodW b rows k
    · rw [List.filter_cons_of_pos (by simpa using h),List.map_cons,List.map_cons,List.sum_cons,List.sum_cons,ih]
    · have:prodW b rows k=0:=by have:=prodW_nn b rows k;lia
      rw [List.filter_cons_of_neg (by simpa using h),List.map_cons,List.sum_cons,ih,this]
      lia
theorem even_tot (b:Nat) (rows:List (List Int)) (ks:List Int):tot (evenL b rows ks)=(ks.map (prodW b rows)).sum:=by
  rw [← filt_sum]
  unfold tot evenL
  rw [List.map_map]
  rfl
theorem pr_one {b:Nat} (t:Int):∀ (rows:List (List Int)) (c:Int),(fws b rows).foldl (fun m f=>m*sm f t 1) c=rows.foldl (fun m row=>m*(look (waysW b row) t).getD 0) c
  | [],_=>rfl
  | r::rows,c=>by
    have e:sm (fw b r) t 1=(look (waysW b r) t).getD 0:=by
      simp [sm,fw]
    show (fws b rows).foldl _ (c*sm (fw b r) t 1)=_
    rw [pr_one t rows,List.foldl_cons,e]
theorem keys_in_lh {b:Nat} (hb:1≤b) {rows:List (List Int)} {row:List Int} (hr:row∈rows):∀ k∈keys (waysW b row),Ma.minL (los b rows)≤k∧k≤Ma.maxL (his b rows):=fun k hk=>by
  have h1:=(Ma.minL_spec _ (keys_ne hb row)).2 k hk
  have h2:=(Ma.maxL_spec _ (keys_ne hb row)).2 k hk
  have nl:0<(los b rows).length:=by rw [los,List.length_map];exact List.length_pos_of_mem hr
  have nh:0<(his b rows).length:=by rw [his,List.length_map];exact List.length_pos_of_mem hr
  have h3:=(Ma.minL_spec _ nl).2 (loW b row) (List.mem_map.mpr ⟨row,hr,rfl⟩)
  have h4:=(Ma.maxL_spec _ nh).2 (hiW b row) (List.mem_map.mpr ⟨row,hr,rfl⟩)
  unfold loW at h3
  unfold hiW at h4
  lia
theorem near_zero {b:Nat} (hb:1≤b) {rows:List (List Int)} {row:List Int} (h0:rows[0]?=some row):nearV b rows 0=tot (evenL b rows (keys (waysW b row))):=by
  have hm:row∈rows:=List.mem_of_getElem? h0
  rw [even_tot]
  have hin:=keys_in_lh hb hm
  rw [sm_list (a:=Ma.minL (los b rows)) (n:=(Ma.maxL (his b rows) - Ma.minL (los b rows)+1).toNat) (ways_tw b row).nd (fun k hk=>by have:=hin k hk;lia) fun t ht=>prodW_off h0 ht]
  unfold nearV
  apply sm_congr
  intro t _ _
  unfold gat
  rw [pr_zero (fs:=fws b rows) (f:=fw b row) (a:=t+1) (n:=0) (List.mem_map.mpr ⟨row,hm,rfl⟩) rfl]
  have:pr (fws b rows) t (0+1)=prodW b rows t:=pr_one t rows 1
  rw [this]
  lia
noncomputable def ngr (row:List Int):List Int:=row.map fun x=>0 - x
theorem cuts_lens (ps:List Nat):∀ ws:List Int,ws.length=ps.sum→(Ma.cuts ps ws).map List.length=ps:=by
  induction ps with
  | nil=>intro ws _;rfl
  | cons p ps ih =>
    intro ws h
    rw [List.sum_cons] at h
    rw [Ma.cuts,List.map_cons,ih (ws.drop p) (by rw [List.length_drop];lia),List.length_take]
    congr 1
    lia
end Me
namespace Mg
open Me Mq
noncomputable def ns (g:Nat→Int):Nat→Int
  | 0=>0
  | n+1=>ns g n+g n
theorem ns_congr {g h:Nat→Int}:∀ {n:Nat},(∀ i,i<n→g i=h i)→ns g n=ns h n
  | 0,_=>rfl
  | n+1,e=>by rw [ns,ns,ns_congr (n:=n) fun i hi=>e i (by lia),e n (by lia)]
theorem ns_add (g:Nat→Int) (n:Nat):∀ m:Nat,ns g (n+m)=ns g n+ns (fun i=>g (n+i)) m
  | 0=>by simp [ns]
  | m+1=>by
    rw [← Nat.add_assoc,ns,ns,ns_add g n m]
    lia
theorem ns_two (g:Nat→Int) (b:Nat):∀ a:Nat,ns g (a*b)=ns (fun i=>ns (fun j=>g (i*b+j)) b) a
  | 0=>by simp [ns]
  | a+1=>by
    rw [Nat.succ_mul,ns_add,ns,ns_two g b a]
noncomputable def tg (f:List (Int×Int)) (G:Int→Int):Int:=(f.map fun q=>q.2*G q.1).sum
theorem tg_cons (p:Int×Int) (f:List (Int×Int)) (G:Int→Int):tg (p::f) G=p.2*G p.1+tg f G:=by simp [tg]
theorem tg_add {k n:Int} {G:Int→Int}:∀ {f:List (Int×Int)},(keys f).Nodup→tg (addTo f k n) G=tg f G+n*G k
  | [],_=>by simp [addTo,put,look,tg]
  | (a,x)::f,nd=>by
    have nd1:a∉keys f:=(List.nodup_cons.mp nd).1
    have nd2:(keys f).Nodup:=(List.nodup_cons.mp nd).2
    by_cases e:a=k
    · subst e
      rw [add_hit nd1,tg_cons,tg_cons]
      simp only
      rw [Int.add_mul]
      lia
    · rw [add_miss e,tg_cons,tg_cons,tg_add (k:=k) (n:=n) nd2]
      lia
theorem tg_figs {p:Int×Int} {w:Int} {G:Int→Int} {acc:List (Int×Int)} (nd:(keys acc).Nodup):∀ n:Nat,tg (figs p w n acc) G=tg acc G+p.2*ns (fun (d:Nat)=>G (p.1+(d:Int)*w)) n
  | 0=>by simp [ns,figs]
  | n+1=>by
    rw [figs_succ,tg_add (figs_nd nd n),tg_figs nd n,ns,Int.mul_add]
    lia
theorem tg_more {b:Nat} {w:Int} {G:Int→Int}:∀ (f acc:List (Int×Int)),(keys acc).Nodup→tg (f.foldl (fun acc p=>figs p w b acc) acc) G=tg acc G+tg f fun x=>ns (fun (d:Nat)=>G (x+(d:Int)*w)) b
  | [],acc,_=>by simp [tg]
  | p::f,acc,nd=>by
    rw [List.foldl_cons,tg_more f _ (figs_nd nd b),tg_figs nd b,tg_cons]
    lia
theorem tg_one {b:Nat} {w:Int} {G:Int→Int} (f:List (Int×Int)):tg (oneMore f b w) G=tg f fun x=>ns (fun (d:Nat)=>G (x+(d:Int)*w)) b:=by
  have:=tg_more (b:=b) (w:=w) (G:=G) f [] (by simp [keys])
  have e:tg [] G=0:=rfl
  rw [e,Int.zero_add] at this
  exact this
noncomputable def ws1 (b d:Nat) (row:List Int):Int:=(Ma.wts b d row.length row).sum
theorem dws_up (b d e L:Nat) (he:e<b):Ma.dws b (d*b+e) (L+1) (L+1)=Ma.dws b d L L++[e]:=by
  rw [Ma.dws_succ]
  congr 1
  · unfold Ma.dws
    apply List.map_congr_left
    intro j hj
    have hj':=List.mem_range.mp hj
    have e1:L+1 - 1 - j=(L - 1 - j)+1:=by lia
    rw [e1,Nat.pow_succ',← Nat.div_div_eq_div_mul]
    have e2:(d*b+e) / b=d:=by
      rw [Nat.mul_comm d b,Nat.mul_add_div (by lia),Nat.div_eq_of_lt he,Nat.add_zero]
    rw [e2]
  · have e1:L+1 - 1 - L=0:=by lia
    rw [e1,Nat.pow_zero,Nat.div_one,Nat.mul_comm d b,Nat.mul_add_mod,Nat.mod_eq_of_lt he]
theorem ws1_up (b d e:Nat) (row:List Int) (w:Int) (he:e<b):ws1 b (d*b+e) (row++[w])=ws1 b d row+e*w:=by
  unfold ws1 Ma.wts
  rw [List.length_append,List.length_singleton,dws_up b d e row.length he,List.zipWith_append (by rw [Ma.dws_len]),List.sum_append]
  simp
theorem ways_all (b:Nat) (G:Int→Int) (row:List Int):ns (fun d=>G (ws1 b d row)) (b ^ row.length)=tg (waysW b row) G:=by
  have key:∀ (n:Nat) (row:List Int),row.length=n→∀ G:Int→Int,ns (fun d=>G (ws1 b d row)) (b ^ row.length)=tg (waysW b row) G:=fun n=>by
    induction n with
    | zero =>
      intro row h G
      have:row=[]:=List.eq_nil_of_length_eq_zero h
      subst this
      simp [ns,tg,waysW,ws1,Ma.wts]
    | succ n ih =>
      intro row h G
      obtain ⟨r,w,rfl⟩:∃ r w,row=r++[w]:=by
        refine ⟨row.dropLast,row.getLast (by intro z;rw [z] at h;simp at h),?_⟩
        exact (List.dropLast_concat_getLast _).symm
      have hr:r.length=n:=by simpa using h
      have e1:waysW b (r++[w])=oneMore (waysW b r) b w:=by
        unfold waysW
        rw [List.foldl_append]
        rfl
      rw [e1,tg_one,← ih r hr,List.length_append,List.length_singleton,Nat.pow_succ,ns_two]
      apply ns_congr
      intro d _
      apply ns_congr
      intro e he
      rw [ws1_up b d e r w he]
  exact key row.length row rfl G
theorem dws_parts (b d m p L:Nat) (hb:0<b) (hm:m<b ^ L):Ma.dws b (d*b ^ L+m) (p+L) (p+L)=Ma.dws b d p p++Ma.dws b m L L:=by
  have gen:∀ i,i≤L→Ma.dws b (d*b ^ L+m) (p+L) (p+i)=Ma.dws b d p p++Ma.dws b m L i:=fun i=>by
    induction i with
    | zero =>
      intro _
      unfold Ma.dws
      simp only [Nat.add_zero,List.range_zero,List.map_nil,List.append_nil]
      apply List.map_congr_left
      intro j hj
      have hj':=List.mem_range.mp hj
      have e1:p+L - 1 - j=(p - 1 - j)+L:=by lia
      rw [e1,Nat.pow_add,Nat.mul_comm (b ^ (p - 1 - j)),← Nat.div_div_eq_div_mul]
      have e2:(d*b ^ L+m) / b ^ L=d:=by
        rw [Nat.mul_comm d,Nat.mul_add_div (Nat.pow_pos hb),Nat.div_eq_of_lt hm,Nat.add_zero]
      rw [e2]
    | succ i ih =>
      intro hi
      rw [← Nat.add_assoc,Ma.dws_succ,Ma.dws_succ,ih (by lia),List.append_assoc]
      congr 3
      have e1:p+L - 1 - (p+i)=L - 1 - i:=by lia
      rw [e1]
      have e3:b ^ L=b ^ (L - 1 - i)*b*b ^ i:=by
        rw [← Nat.pow_succ,← Nat.pow_add]
        congr 1
        lia
      have e4:d*b ^ L+m=b ^ (L - 1 - i)*(d*b ^ i*b)+m:=by
        rw [e3]
        congr 1
        rw [Nat.mul_assoc (b ^ (L - 1 - i)),← Nat.mul_assoc d,Nat.mul_comm d,Nat.mul_assoc (b ^ (L - 1 - i))]
        congr 1
        rw [Nat.mul_comm b,← Nat.mul_assoc]
      rw [e4,Nat.mul_add_div (Nat.pow_pos hb),Nat.add_comm,Nat.add_mul_mod_self_right]
  exact gen L (Nat.le_refl _)
noncomputable abbrev sumsN (b n:Nat) (ps:List Nat) (ws:List Int):List Int:=Ma.psums ps (Ma.wts b n ps.sum ws)
theorem sums_cons {b d m p:Nat} {ps:List Nat} {ws:List Int} (hb:0<b) (hm:m<b ^ ps.sum) (hw:ws.length=p+ps.sum):sumsN b (d*b ^ ps.sum+m) (p::ps) ws=ws1 b d (ws.take p)::sumsN b m ps (ws.drop p):=by
  have hl:(ws.take p).length=p:=by rw [List.length_take];lia
  have e:Ma.wts b (d*b ^ ps.sum+m) (p::ps).sum ws=Ma.wts b d p (ws.take p)++Ma.wts b m ps.sum (ws.drop p):=by
    unfold Ma.wts
    rw [List.sum_cons,dws_parts b d m p ps.sum hb hm]
    conv=>lhs;rw [← List.take_append_drop p ws]
    rw [List.zipWith_append (by rw [Ma.dws_len,hl])]
  show Ma.psums (p::ps) (Ma.wts b (d*b ^ ps.sum+m) (p::ps).sum ws)=_
  rw [e]
  have l1:(Ma.wts b d p (ws.take p)).length=p:=Ma.wts_len _ _ _ _ hl
  unfold Ma.psums
  rw [Ma.cuts,List.map_cons]
  congr 1
  · rw [List.take_left' l1]
    unfold ws1
    rw [hl]
  · rw [List.drop_left' l1]
    rfl
noncomputable def tr (b:Nat):List (List Int)→(List Int→Int)→Int
  | [],F=>F []
  | row::rows,F=>tg (waysW b row) fun x=>tr b rows fun v=>F (x::v)
theorem all_tr {b:Nat} (hb:0<b):∀ (ps:List Nat) (ws:List Int) (F:List Int→Int),ws.length=ps.sum→ns (fun n=>F (sumsN b n ps ws)) (b ^ ps.sum)=tr b (Ma.cuts ps ws) F
  | [],ws,F,_=>by
    show ns _ (b ^ 0)=F []
    rw [Nat.pow_zero]
    simp only [ns,Int.zero_add]
    rfl
  | p::ps,ws,F,h=>by
    rw [List.sum_cons] at h
    have hl:(ws.take p).length=p:=by rw [List.length_take];lia
    rw [List.sum_cons,Nat.pow_add,ns_two,Ma.cuts,tr,← ways_all,hl]
    apply ns_congr
    intro d _
    rw [← all_tr hb ps (ws.drop p) _ (by rw [List.length_drop];lia)]
    apply ns_congr
    intro m hm
    rw [sums_cons hb hm h]
theorem tg_congr {f:List (Int×Int)} {G H:Int→Int} (h:∀ x,G x=H x):tg f G=tg f H:=by
  unfold tg
  congr 1
  exact List.map_congr_left fun p _=>by rw [h]
theorem tr_congr {b:Nat}:∀ {rows:List (List Int)} {F G:List Int→Int},(∀ v,v.length=rows.length→F v=G v)→tr b rows F=tr b rows G
  | [],_,_,h=>h [] rfl
  | _::rows,_,_,h=>tg_congr fun x=>tr_congr fun v hv=>h (x::v) (by simp [hv])
theorem tg_mul (c:Int) (f:List (Int×Int)) (G:Int→Int):tg f (fun x=>c*G x)=c*tg f G:=by
  induction f with
  | nil=>simp [tg]
  | cons p f ih=>rw [tg_cons,tg_cons,ih,Int.mul_add,← Int.mul_assoc,← Int.mul_assoc,Int.mul_comm p.2 c]
theorem tg_sub (f:List (Int×Int)) (G H:Int→Int):tg f (fun x=>G x - H x)=tg f G - tg f H:=by
  induction f with
  | nil=>simp [tg]
  | cons p f ih=>rw [tg_cons,tg_cons,tg_cons,ih,Int.mul_sub];lia
theorem tg_plus (f:List (Int×Int)) (G H:Int→Int):tg f (fun x=>G x+H x)=tg f G+tg f H:=by
  induction f with
  | nil=>simp [tg]
  | cons p f ih=>rw [tg_cons,tg_cons,tg_cons,ih,Int.mul_add];lia
theorem tr_mul {b:Nat} (c:Int):∀ (rows:List (List Int)) (F:List Int→Int),tr b rows (fun v=>c*F v)=c*tr b rows F
  | [],_=>rfl
  | row::rows,F=>by
    show tg _ _=c*tg _ _
    rw [← tg_mul]
    exact tg_congr fun x=>tr_mul c rows _
theorem tr_sub {b:Nat}:∀ (rows:List (List Int)) (F G:List Int→Int),tr b rows (fun v=>F v - G v)=tr b rows F - tr b rows G
  | [],_,_=>rfl
  | row::rows,F,G=>by
    show tg _ _=tg _ _ - tg _ _
    rw [← tg_sub]
    exact tg_congr fun x=>tr_sub rows _ _
theorem tr_plus {b:Nat}:∀ (rows:List (List Int)) (F G:List Int→Int),tr b rows (fun v=>F v+G v)=tr b rows F+tr b rows G
  | [],_,_=>rfl
  | row::rows,F,G=>by
    show tg _ _=tg _ _+tg _ _
    rw [← tg_plus]
    exact tg_congr fun x=>tr_plus rows _ _
theorem tr_zero {b:Nat} (rows:List (List Int)):tr b rows (fun _=>0)=0:=by
  have:=tr_mul (b:=b) 0 rows fun _=>0
  simp only [Int.zero_mul] at this
  exact this
theorem tr_sm {b:Nat} (rows:List (List Int)) (F:Int→List Int→Int) (a:Int):∀ n:Nat,tr b rows (fun v=>sm (fun t=>F t v) a n)=sm (fun t=>tr b rows (F t)) a n
  | 0=>tr_zero rows
  | n+1=>by
    simp only [sm]
    rw [tr_plus,tr_sm rows F a n]
noncomputable def fp (h:Int→Int) (v:List Int):Int:=v.foldl (fun m x=>m*h x) 1
theorem fold_out (h:Int→Int):∀ (v:List Int) (c:Int),v.foldl (fun m x=>m*h x) c=c*v.foldl (fun m x=>m*h x) 1
  | [],c=>by simp
  | x::v,c=>by
    rw [List.foldl_cons,List.foldl_cons,fold_out h v (c*h x),fold_out h v (1*h x),Int.one_mul,Int.mul_assoc]
theorem tr_prod {b:Nat} (h:Int→Int):∀ rows:List (List Int),tr b rows (fp h)=rows.foldl (fun m row=>m*tg (waysW b row) h) 1
  | []=>rfl
  | row::rows=>by
    have e:∀ (rs:List (List Int)) (c:Int),rs.foldl (fun m row=>m*tg (waysW b row) h) c=c*rs.foldl (fun m row=>m*tg (waysW b row) h) 1:=fun rs=>by
      induction rs with
      | nil=>intro c;simp
      | cons r rs ih=>intro c;rw [List.foldl_cons,List.foldl_cons,ih (c*_),ih (1*_),Int.one_mul,Int.mul_assoc]
    rw [List.foldl_cons,e rows,Int.one_mul,← tr_prod h rows]
    show tg (waysW b row) (fun x=>tr b rows fun v=>fp h (x::v))=_
    have e2:∀ x,tr b rows (fun v=>fp h (x::v))=tr b rows (fp h)*h x:=fun x=>by
      rw [Int.mul_comm,← tr_mul]
      exact tr_congr fun v _=>by
        unfold fp
        rw [List.foldl_cons,fold_out,Int.one_mul]
    rw [tg_congr e2,tg_mul,Int.mul_comm]
noncomputable def iv (a:Int) (n:Nat) (x:Int):Int:=if a≤x∧x<a+n then 1 else 0
theorem sm_delta (x a:Int):∀ n:Nat,sm (fun t=>if x=t then 1 else 0) a n=iv a n x
  | 0=>by
    unfold iv
    rw [if_neg (by lia)]
    rfl
  | n+1=>by
    simp only [sm]
    rw [sm_delta x a n]
    unfold iv
    by_cases h1:a≤x∧x<a+n
    · rw [if_pos h1,if_neg (by lia),if_pos (by push_cast;lia)]
      rfl
    · by_cases h2:x=a+n
      · rw [if_neg h1,if_pos h2,if_pos (by push_cast;lia)]
        rfl
      · rw [if_neg h1,if_neg h2,if_neg (by push_cast;lia)]
        rfl
theorem tg_delta {t:Int}:∀ {f:List (Int×Int)},(keys f).Nodup→tg f (fun x=>if x=t then 1 else 0)=gv f t
  | [],_=>rfl
  | (a,x)::f,nd=>by
    have nd1:a∉keys f:=(List.nodup_cons.mp nd).1
    have nd2:(keys f).Nodup:=(List.nodup_cons.mp nd).2
    rw [tg_cons,tg_delta nd2]
    unfold gv
    by_cases e:a=t
    · subst e
      rw [look_hit,look_none nd1,if_pos rfl]
      simp
    · rw [look_miss e,if_neg e]
      simp
theorem tg_sm (f:List (Int×Int)) (F:Int→Int→Int) (a:Int):∀ n:Nat,tg f (fun x=>sm (fun t=>F t x) a n)=sm (fun t=>tg f (F t)) a n
  | 0=>by
    have:=tg_mul 0 f fun _=>0
    simp only [Int.zero_mul] at this
    exact this
  | n+1=>by
    simp only [sm]
    rw [tg_plus,tg_sm f F a n]
theorem tg_iv {b:Nat} (row:List Int) (a:Int) (n:Nat):tg (waysW b row) (iv a n)=sm (fw b row) a n:=by
  have e:∀ x,iv a n x=sm (fun t=>if x=t then 1 else 0) a n:=fun x=>(sm_delta x a n).symm
  rw [tg_congr e,tg_sm (waysW b row) (fun t x=>if x=t then 1 else 0)]
  apply sm_congr
  intro t _ _
  exact tg_delta (ways_tw b row).nd
theorem tr_iv {b:Nat} (rows:List (List Int)) (a:Int) (n:Nat):tr b rows (fp (iv a n))=pr (fws b rows) a n:=by
  rw [tr_prod]
  unfold pr fws
  rw [List.foldl_map]
  congr 1
  funext m row
  rw [tg_iv]
end Mg
namespace Mg
open Me Mq
theorem tg_congrK {f:List (Int×Int)} {G H:Int→Int} (h:∀ x∈keys f,G x=H x):tg f G=tg f H:=by
  unfold tg
  congr 1
  exact List.map_congr_left fun p hp=>by rw [h p.1 (List.mem_map.mpr ⟨p,hp,rfl⟩)]
theorem tr_congrB {b:Nat} {lo hi:Int}:∀ {rows:List (List Int)} {F G:List Int→Int},(∀ row∈rows,∀ k∈keys (waysW b row),lo≤k∧k≤hi)→(∀ v,v.length=rows.length→(∀ x∈v,lo≤x∧x≤hi)→F v=G v)→tr b rows F=tr b rows G
  | [],_,_,_,h=>h [] rfl fun _ z=>by simp at z
  | row::rows,_,_,hk,h=>tg_congrK fun x hx=>tr_congrB (fun r hr=>hk r (by simp [hr])) fun v hv hb=>h (x::v) (by simp [hv]) fun y hy=>by
      rcases List.mem_cons.mp hy with rfl | hy
      · exact hk row (by simp) _ hx
      · exact hb y hy
theorem fp_all (q:Int→Prop) [DecidablePred q]:∀ v:List Int,fp (fun x=>if q x then 1 else 0) v=if ∀ x∈v,q x then 1 else 0
  | []=>by simp [fp]
  | x::v=>by
    have e:fp (fun x=>if q x then 1 else 0) (x::v)=(if q x then 1 else 0)*fp (fun x=>if q x then 1 else 0) v:=by
      unfold fp
      rw [List.foldl_cons,fold_out,Int.one_mul]
    rw [e,fp_all q v]
    by_cases h1:q x
    · by_cases h2:∀ y∈v,q y
      · rw [if_pos h1,if_pos h2,if_pos (by intro y hy;rcases List.mem_cons.mp hy with rfl | hy;exact h1;exact h2 y hy)];rfl
      · rw [if_pos h1,if_neg h2,if_neg (fun z=>h2 fun y hy=>z y (by simp [hy]))];rfl
    · have h3:¬ ∀ y∈x::v,q y:=fun z=>h1 (z x List.mem_cons_self)
      rw [if_neg h1,if_neg h3,Int.zero_mul]
noncomputable def sprd (v:List Int):Int:=Ma.maxL v - Ma.minL v
theorem all_in {v:List Int} (hv:0<v.length) {a:Int} {n:Nat}:(∀ x∈v,a≤x∧x<a+n)↔a≤Ma.minL v∧Ma.maxL v<a+n:=by
  obtain ⟨m1,m2⟩:=Ma.minL_spec v hv
  obtain ⟨m3,m4⟩:=Ma.maxL_spec v hv
  constructor
  · intro h
    exact ⟨(h _ m1).1,(h _ m3).2⟩
  · rintro ⟨h1,h2⟩ x hx
    have:=m2 x hx
    have:=m4 x hx
    lia
theorem fp_iv {v:List Int} (hv:0<v.length) (a:Int) (n:Nat):fp (iv a n) v=if a≤Ma.minL v∧Ma.maxL v<a+n then 1 else 0:=by
  have:=fp_all (fun x=>a≤x∧x<a+n) v
  have e:iv a n=fun x=>if a≤x∧x<a+(n:Int) then 1 else 0:=rfl
  rw [e,this]
  by_cases h:∀ x∈v,a≤x∧x<a+n
  · rw [if_pos h,if_pos ((all_in hv).mp h)]
  · rw [if_neg h,if_neg fun z=>h ((all_in hv).mpr z)]
theorem win {v:List Int} (hv:0<v.length) {d:Nat} {A:Int} {N:Nat} (h1:A≤Ma.minL v) (h2:Ma.minL v<A+N):(if sprd v≤d then 1 else 0)=sm (fun a=>fp (iv a (d+1)) v - fp (iv (a+1) d) v) A N:=by
  have e:sm (fun a=>fp (iv a (d+1)) v - fp (iv (a+1) d) v) A N=sm (fun a=>if Ma.minL v=a then (if sprd v≤d then 1 else 0) else 0) A N:=by
    apply sm_congr
    intro a _ _
    rw [fp_iv hv,fp_iv hv]
    unfold sprd
    obtain ⟨m1,m2⟩:=Ma.minL_spec v hv
    obtain ⟨m3,m4⟩:=Ma.maxL_spec v hv
    have mm:=m2 _ m3
    push_cast
    by_cases q1:Ma.minL v=a
    · rw [if_pos q1]
      by_cases q2:Ma.maxL v - Ma.minL v≤d
      · rw [if_pos (by lia),if_neg (by lia),if_pos q2];rfl
      · rw [if_neg (by lia),if_neg (by lia),if_neg q2];rfl
    · rw [if_neg q1]
      by_cases q2:a≤Ma.minL v∧Ma.maxL v<a+(d+1)
      · rw [if_pos q2,if_pos (by lia)];rfl
      · rw [if_neg q2,if_neg (by lia)];rfl
  rw [e]
  by_cases q:sprd v≤d
  · rw [if_pos q,sm_delta]
    unfold iv
    rw [if_pos ⟨h1,h2⟩]
  · rw [if_neg q]
    refine (sm_zero fun t _ _=>?_).symm
    split <;> rfl
section
variable {b:Nat} {ps:List Nat} {ws:List Int}
theorem cnt_near (hb:0<b) (hw:ws.length=ps.sum) (hp:0<ps.length) (d:Nat):ns (fun n=>if sprd (sumsN b n ps ws)≤d then 1 else 0) (b ^ ps.sum)=nearV b (Ma.cuts ps ws) d:=by
  rw [all_tr hb ps ws (fun v=>if sprd v≤d then 1 else 0) hw]
  have hne:0<(Ma.cuts ps ws).length:=by rw [Ma.cuts_len];exact hp
  rw [tr_congrB (G:=fun v=>sm (fun a=>fp (iv a (d+1)) v - fp (iv (a+1) d) v) (Ma.minL (los b (Ma.cuts ps ws))) (Ma.maxL (his b (Ma.cuts ps ws)) - Ma.minL (los b (Ma.cuts ps ws))+1).toNat) (lo:=Ma.minL (los b (Ma.cuts ps ws))) (hi:=Ma.maxL (his b (Ma.cuts ps ws)))
    (fun row hr k hk=>keys_in_lh hb hr k hk) fun v hv hx=>?_]
  · rw [tr_sm (Ma.cuts ps ws) fun a v=>fp (iv a (d+1)) v - fp (iv (a+1) d) v]
    unfold nearV
    apply sm_congr
    intro a _ _
    rw [tr_sub,tr_iv,tr_iv]
    rfl
  · have hv0:0<v.length:=by lia
    have m1:=hx _ (Ma.minL_spec v hv0).1
    exact win hv0 (by lia) (by lia)
end
noncomputable def cd (w:Nat→Bool) (k:Nat→Int):Nat→List (Int×Int)
  | 0=>[]
  | n+1=>if w n=true then addTo (cd w k n) (k n) 1 else cd w k n
structure Pos (f:List (Int×Int)):Prop where
  nd:(keys f).Nodup
  ps:∀ p∈f,1≤p.2
end Mg
namespace Mg
open Me Mq
section
variable {b:Nat} {ps:List Nat} {ws:List Int}
end
end Mg
namespace Mu
open Me Mg
noncomputable abbrev Tri:=List (Int×Int×Int)
noncomputable abbrev keyT (h:Tri):List Int:=h.map (·.1)
noncomputable def lookT (h:Tri) (k:Int):Option (Int×Int):=(h.find? fun q=>decide (q.1=k)).map (·.2)
noncomputable abbrev gT (h:Tri) (k:Int):Int×Int:=(lookT h k).getD (0,0)
noncomputable def TT (h:Tri) (A B:Int→Int):Int:=(h.map fun q=>q.2.1*A q.1+q.2.2*B q.1).sum
theorem ns_nn {g:Nat→Int}:∀ {n:Nat},(∀ i,i<n→0≤g i)→0≤ns g n
  | 0,_=>Int.le_refl _
  | n+1,h=>by
    rw [ns]
    have:=ns_nn (n:=n) fun i hi=>h i (by lia)
    have:=h n (by lia)
    lia
theorem ns_le {g h:Nat→Int}:∀ {n:Nat},(∀ i,i<n→g i≤h i)→ns g n≤ns h n
  | 0,_=>Int.le_refl _
  | n+1,e=>by
    rw [ns,ns]
    have:=ns_le (n:=n) fun i hi=>e i (by lia)
    have:=e n (by lia)
    lia
theorem ns_const (x:Int):∀ n:Nat,ns (fun _=>x) n=n*x
  | 0=>by simp [ns]
  | n+1=>by rw [ns,ns_const x n];push_cast;rw [Int.add_mul];lia
end Mu
namespace Mu
open Me Mg
theorem ws1_parts {b d i:Nat} {r1 r2:List Int} (hb:0<b) (hi:i<b ^ r2.length):ws1 b (d*b ^ r2.length+i) (r1++r2)=ws1 b d r1+ws1 b i r2:=by
  unfold ws1 Ma.wts
  rw [List.length_append,dws_parts b d i r1.length r2.length hb hi,List.zipWith_append (by rw [Ma.dws_len]),List.sum_append]
end Mu
namespace Hv
open PySem L2
theorem wz_ws1 {b q j:Nat} {ws:List Int} (hj:j≤ws.length):(wz (Ma.dws b q j j) ws).sum=Mg.ws1 b q (ws.take j):=by
  unfold Mg.ws1 Ma.wts
  rw [List.length_take,Nat.min_eq_left hj]
  congr 1
  have e:ws=ws.take j++ws.drop j:=(List.take_append_drop j ws).symm
  conv=>lhs;rw [e]
  unfold wz
  rw [← List.append_nil (Ma.dws b q j j),List.zipWith_append (by rw [Ma.dws_len,List.length_take,Nat.min_eq_left hj])]
  simp
theorem ws1_in {b q:Nat} {r:List Int} (hb0:0<b) (hb:b≤16) (hw:∀ x∈r,-9≤x∧x≤9) : -(135*(r.length:Int))≤Mg.ws1 b q r∧Mg.ws1 b q r≤135*(r.length:Int):=by
  unfold Mg.ws1
  have gen:∀ l:List Int,(∀ y∈l,-135≤y∧y≤135)→-(135*(l.length:Int))≤l.sum∧l.sum≤135*(l.length:Int):=fun l=>by
    induction l with
    | nil=>intro _;simp
    | cons a t ih =>
      intro h
      have h1:=h a (by simp)
      have h2:=ih fun y hy=>h y (by simp [hy])
      simp only [List.sum_cons,List.length_cons]
      push_cast
      lia
  have g:=gen (Ma.wts b q r.length r) fun y hy=>by
    unfold Ma.wts at hy
    obtain ⟨i,hi⟩:=List.getElem?_of_mem hy
    rw [List.getElem?_zipWith] at hi
    cases e1:(Ma.dws b q r.length r.length)[i]? with
    | none=>rw [e1] at hi;simp at hi
    | some d =>
      cases e2:r[i]? with
      | none=>rw [e1,e2] at hi;simp at hi
      | some x =>
        rw [e1,e2] at hi
        have hy':y=(d:Int)*x:=by simpa using hi.symm
        have hd:=Ma.dws_lt hb0 (List.mem_of_getElem? e1)
        have hx:=hw x (List.mem_of_getElem? e2)
        have:=Me.step_in (m:=0) (x:=0) (w:=x) (d:=d) (b:=b) ⟨by decide,by decide⟩ hx hb hd
        rw [hy']
        lia
  rw [Ma.wts_len _ _ _ _ rfl] at g
  exact g
noncomputable def RowsD (H:Hp) (b j q:Nat) (rs:List Addr):Prop:=∀ k a,rs[k]?=some a→H a=some (.lst (natV (Ma.dws b (q+k) j j)))∧q+k<b ^ j
theorem RowsD.keep {H H':Hp} {b j q:Nat} {rs:List Addr} (h:RowsD H b j q rs) (s:Same H H'):RowsD H' b j q rs:=fun k a e=>⟨s _ _ (h k a e).1,(h k a e).2⟩
end Hv
namespace Mu
open Me Mg
theorem ns_pairs {lo n lo2 n2 st:Nat} (g:Nat→Int) (hr:(n=1)∨(lo2=0∧n2=st)):ns (fun i=>ns (fun j=>g ((lo+i)*st+(lo2+j))) n2) n=ns (fun i=>g (lo*st+lo2+i)) (n*n2):=by
  rcases hr with rfl | ⟨rfl,rfl⟩
  · rw [Nat.one_mul]
    simp only [ns,Int.zero_add,Nat.add_zero]
    exact ns_congr fun j _=>by rw [Nat.add_assoc]
  · rw [ns_two]
    refine ns_congr fun i _=>ns_congr fun j _=>?_
    rw [Nat.zero_add,Nat.add_mul,Nat.add_zero,Nat.add_assoc]
end Mu
namespace Mu
open Me Mg
theorem dig {b x m t:Nat} (ht:t<m):x % b ^ m / b ^ (m - 1 - t) % b=x / b ^ (m - 1 - t) % b:=by
  have e:b ^ m=b ^ (m - 1 - t)*(b*b ^ t):=by
    rw [← Nat.pow_succ',← Nat.pow_add]
    congr 1
    lia
  rw [e,Nat.mod_mul_right_div_self,Nat.mod_mul_right_mod]
theorem dws_at {b n L i:Nat} (h:i<L):(Ma.dws b n L L)[i]?=some (n / b ^ (L - 1 - i) % b):=by
  unfold Ma.dws
  rw [List.getElem?_map,List.getElem?_range h]
  rfl
theorem dws_cut {b a pl o l:Nat} (h:o+l≤pl):((Ma.dws b a pl pl).drop o).take l=Ma.dws b (a / b ^ (pl - o - l) % b ^ l) l l:=by
  apply List.ext_getElem?
  intro t
  by_cases ht:t<l
  · rw [List.getElem?_take_of_lt ht,List.getElem?_drop,dws_at (by lia),dws_at ht,dig ht,Nat.div_div_eq_div_mul,← Nat.pow_add]
    have:pl - 1 - (o+t)=pl - o - l+(l - 1 - t):=by lia
    rw [this]
  · rw [List.getElem?_eq_none (by rw [List.length_take,List.length_drop,Ma.dws_len];lia),List.getElem?_eq_none (by rw [Ma.dws_len];lia)]
theorem dws_cut2 {b a pl o l:Nat} (h:o≤pl) (h2:pl≤o+l):((Ma.dws b a pl pl).drop o).take l=Ma.dws b (a % b ^ (pl - o)) (pl - o) (pl - o):=by
  have e:((Ma.dws b a pl pl).drop o).take l=((Ma.dws b a pl pl).drop o).take (pl - o):=by
    rw [List.take_of_length_le (by rw [List.length_drop,Ma.dws_len];lia),List.take_of_length_le (by rw [List.length_drop,Ma.dws_len];lia)]
  rw [e,dws_cut (by lia)]
  have:pl - o - (pl - o)=0:=by lia
  rw [this,Nat.pow_zero,Nat.div_one]
theorem dws_cut3 {b a pl o l:Nat} (h:pl≤o):((Ma.dws b a pl pl).drop o).take l=[]:=by
  rw [List.drop_of_length_le (by rw [Ma.dws_len];exact h)]
  simp
noncomputable def pj (pl o l:Nat):Nat:=if o+l≤pl then l else if o≤pl then pl - o+1 else 0
noncomputable def pq (b a pl o l:Nat):Nat:=if o+l≤pl then a / b ^ (pl - o - l) % b ^ l else if o≤pl then a % b ^ (pl - o)*b else 0
noncomputable def pn (pl e o l:Nat):Nat:=if o+l≤pl then 1 else if o≤pl then e else 1
theorem pj_le {pl o l:Nat}:pj pl o l≤l:=by
  unfold pj
  split
  · exact Nat.le_refl _
  · split <;> lia
end Mu
namespace Hv
open PySem L2
noncomputable def BegsAt (H:Hp) (p:Addr) (b a pl e:Nat) (ps:List Nat) (bs:List Addr):Prop:=∀ i l r,ps[i]?=some l→bs[i]?=some r→r≠p∧∃ rs,H r=some (.lst (rs.map V.ref))∧rs.length=Mu.pn pl e (ps.take i).sum l∧(∀ x∈rs,x≠p)∧RowsD H b (Mu.pj pl (ps.take i).sum l) (Mu.pq b a pl (ps.take i).sum l) rs
theorem BegsAt.up {H H':Hp} {p:Addr} {b a pl e:Nat} {ps:List Nat} {bs:List Addr} (h:BegsAt H p b a pl e ps bs) (k:∀ x o,H x=some o→x≠p→H' x=some o):BegsAt H' p b a pl e ps bs:=fun i l r h1 h2=>by
  obtain ⟨n1,rs,g1,g2,g3,g4⟩:=h i l r h1 h2
  exact ⟨n1,rs,k _ _ g1 n1,g2,g3,fun m x e=>⟨k _ _ (g4 m x e).1 (g3 x (List.mem_of_getElem? e)),(g4 m x e).2⟩⟩
noncomputable def spPartBegin:Sp:=fun vs H Q _=>∃ f A c b ps ws,∃ (hd:Addr) (a pl e:Nat),vs=[.ref f,.ref hd,.int e]∧FrAt H f A c b ps ws∧H hd=some (.lst (natV (Ma.dws b a pl pl)))∧e≤b∧pl≤24∧
  ∀ (p:Addr) (bs:List Addr) (H':Hp),H p=none→Same H H'→H' p=some (.lst (bs.map V.ref))→bs.length=ps.length→BegsAt H' p b a pl e ps bs→Q (.ref p) H'
section
variable {P:Program} {w:World} {K:PySem.W.Frag} {mg:Str→Option Value} {base:Heap}
theorem scPartBegin:FnScope ["frame","head","end","beginnings","start","length","given"] ["frame","head","end"] (defScope sPartBegin):=⟨rfl,rfl,rfl,by decide +kernel,rfl,by decide +kernel,by decide +kernel⟩
theorem ok_partbegin {f:Addr} {fd:FuncData} (F:Fun K "part_beginnings" "part_beginnings" sPartBegin f fd) (T:Txt mg):FnOk P w K mg base CX0 1 f fd ["frame","head","end"] spPartBegin:=by
  refine F.ok scPartBegin (fun vs H Q E h=>?_) (fun cdv A outer s H vs Q E hr h=>?_)
  · obtain ⟨g,A,c,b,ps,ws,hd,a,pl,e,rfl,_⟩:=h;rfl
  · obtain ⟨g,A',c,b,ps,ws,hd,a,pl,e,rfl,G,hhd,heb,hpl,k⟩:=h
    have nd:=scPartBegin.nd
    have ok:=G.ok
    have l4:=ok.l4
    have b2:=ok.b2
    refine ⟨_,pss_cons (ps_set (i:=3) nd rfl (Or.inl rfl) (pe_lst pa_nil))
      (pss_cons (ps_set (i:=4) nd rfl (Or.inl rfl) pe_int)
      (pss_cons (ps_for PassesOwn.never rfl (pi_list (ixt (pv 0) pe_int)) (pg_name (i:=5) nd rfl (Or.inl rfl))
        (pss_cons (ps_set (i:=6) nd rfl (Or.inr rfl) (pe_slice sl_list (pv 1) (po_some (pv 4)) (po_some (pe_op op_add (pv 4) (pv 5)))))
        (pss_cons (ps_if (pt_chain op_le op_lt (pv 4) (lenS T.len (by rfl) (pv 1)) (pe_op op_add (pv 4) (pv 5)))
          (pss_one (ps_expr (pe_bm PySem.F.plainAttrs_list PySem.F.slot_list_append PySem.F.type_list_append mt_append (pv 3) (pa_cons (pe_cmp1 (defScope sPartBegin) ["frame","head","end","beginnings","start","length","given"] ["given"] [6] rfl (pi_range1 (by rfl) T.range (pa_cons (pv 2) pa_nil)) (fun cl C s H fp=>pf_nil)
            (fun cl C s H fp=>pe_op op_cat (pv 1) (pe_lst (pa_cons (pv 0) pa_nil))) (by decide +kernel)) pa_nil))))
          (pss_one (ps_expr (pe_bm PySem.F.plainAttrs_list PySem.F.slot_list_append PySem.F.type_list_append mt_append (pv 3) (pa_cons (pe_lst (pa_cons (pv 6) pa_nil)) pa_nil)))))
        (pss_one (ps_set (i:=4) nd rfl (Or.inl rfl) (pe_op op_add (pv 4) (pv 5)))))))
      (pss_one (ps_ret (pv 3))))),?_⟩
    refine ⟨sz (by decide),fun p hp=>?_⟩
    have s1:Same H (upd H p (.lst [])):=same_upd hp
    have G1:=G.keep s1
    refine ⟨_,rfl,_,_,_,_,rfl,rfl,SqT.of G1.tp,rfl,A',rfl,⟨_,SqL.of G1.hp⟩,for_list (K:=K) (a:=A') (xs:=natV ps) (fun i σ H2=>∃ (bs:List Addr) (v5 v6:Option V),σ=[some (.ref g),some (.ref hd),some (.int e),some (.ref p),some (.int (((ps.take i).sum:Nat):Int)),v5,v6]∧Same H H2∧H2 p=some (.lst (bs.map V.ref))∧bs.length=i∧BegsAt H2 p b a pl e ps bs)
      ⟨[],none,none,rfl,s1,upd_same,rfl,fun i l r _ h=>by simp at h⟩ (fun i σ H2 _ h=>by obtain ⟨_,_,_,_,s2,_⟩:=h;exact SqL.of (s2 _ _ G.hp)) ?_ ?_⟩
    · rintro i x σ H2 hx ⟨bs,v5,v6,rfl,s2,hp2,hl2,B2⟩
      obtain ⟨l,hl,rfl⟩:=nat_at hx
      have hi4:i<4:=by have:=(List.getElem?_eq_some_iff.mp hl).1;lia
      generalize eo:(ps.take i).sum=o
      have es:(ps.take (i+1)).sum=o+l:=by rw [List.take_add_one,hl,List.sum_append,eo];simp
      have eg:cutV (natV (Ma.dws b a pl pl)) (some ((o:Nat):Int)) (some (((o:Nat):Int)+((l:Nat):Int)))=natV (((Ma.dws b a pl pl).drop o).take l):=by
        rw [cut_mid]
        simp [natV,List.map_take,List.map_drop]
      refine ⟨_,rfl,_,rfl,_,rfl,_,rfl,_,rfl,_,_,rfl,rfl,_,rfl,hd,_,rfl,SqL.of (s2 _ _ hhd),fun q hq=>?_⟩
      have eg':cutV (natV (Ma.dws b a pl pl)) (some ((o:Nat):Int)) (some ((fun i j=>i+j) ((o:Nat):Int) ((l:Nat):Int)))=natV (((Ma.dws b a pl pl).drop o).take l):=eg
      have s3:=same_upd (o:=.lst (natV (((Ma.dws b a pl pl).drop o).take l))) hq
      have u3:(upd H2 q (.lst (natV (((Ma.dws b a pl pl).drop o).take l)))) q=_:=upd_same
      have epq:p≠q:=ne_of_none hp2 hq
      rw [show (upd H2 q (.lst (cutV (natV (Ma.dws b a pl pl)) (some ((o:Nat):Int)) (some (((o:Nat):Int)+((l:Nat):Int))))))=upd H2 q (.lst (natV (((Ma.dws b a pl pl).drop o).take l))) from by rw [eg]]
      generalize upd H2 q (.lst (natV (((Ma.dws b a pl pl).drop o).take l)))=H3 at s3 u3⊢
      have p3:=s3 _ _ hp2
      have close:∀ (r:Addr) (rs:List Addr) (H4:Hp),Same H3 H4→H4 r=some (.lst (rs.map V.ref))→r≠p→rs.length=Mu.pn pl e o l→(∀ x∈rs,x≠p)→RowsD H4 b (Mu.pj pl o l) (Mu.pq b a pl o l) rs→
          Same H (upd H4 p (.lst (bs.map V.ref++[V.ref r])))∧(upd H4 p (.lst (bs.map V.ref++[V.ref r]))) p=some (.lst ((bs++[r]).map V.ref))∧(bs++[r]).length=i+1∧BegsAt (upd H4 p (.lst (bs.map V.ref++[V.ref r]))) p b a pl e ps (bs++[r]):=fun r rs H4 s4 hr4 nr hn hne RD=>by
        refine ⟨same_upd2 ((s2.trans s3).trans s4) hp,by rw [upd_same,List.map_append];rfl,by simp [hl2],fun m l' r' h1 h2=>?_⟩
        have upx:∀ x ob,H4 x=some ob→x≠p→(upd H4 p (.lst (bs.map V.ref++[V.ref r]))) x=some ob:=fun x ob e n=>by rw [upd_ne n];exact e
        by_cases hm:m<bs.length
        · rw [List.getElem?_append_left hm] at h2
          exact BegsAt.up B2 (fun x ob e n=>upx x ob ((s3.trans s4) _ _ e) n) m l' r' h1 h2
        · have hm':m=bs.length:=by
            have:=(List.getElem?_eq_some_iff.mp h2).1
            simp at this
            lia
          have hmi:m=i:=by lia
          subst hmi
          rw [List.getElem?_append_right (by lia),hm',Nat.sub_self] at h2
          have er:r=r':=by simpa using h2
          subst er
          rw [hl] at h1
          have el:l=l':=Option.some.inj h1
          subst el
          rw [eo]
          exact ⟨nr,rs,upx _ _ hr4 nr,hn,hne,fun t x e=>⟨upx _ _ (RD t x e).1 (hne x (List.mem_of_getElem? e)),(RD t x e).2⟩⟩
      have one:∀ H4,Same H3 H4→((Ma.dws b a pl pl).drop o).take l=Ma.dws b (Mu.pq b a pl o l) (Mu.pj pl o l) (Mu.pj pl o l)→Mu.pq b a pl o l<b ^ Mu.pj pl o l→RowsD H4 b (Mu.pj pl o l) (Mu.pq b a pl o l) [q]:=fun H4 s4 e1 e2 t x e=>by
        have ht:t=0:=by have:=(List.getElem?_eq_some_iff.mp e).1;simp at this;exact this
        subst ht
        have ex:q=x:=by simpa using e
        subst ex
        rw [Nat.add_zero,← e1]
        exact ⟨s4 _ _ u3,e2⟩
      have el0:(((natV (Ma.dws b a pl pl)).length:Nat):Int)=(pl:Int):=by rw [natV,List.length_map,Ma.dws_len]
      refine ⟨_,rfl,_,rfl,hd,_,rfl,.inl (SqL.of (s3 _ _ (s2 _ _ hhd))),_,_,rfl,rfl,_,rfl,?_⟩
      rw [el0]
      have b0:0<b:=by lia
      have single:∀ (_:((Ma.dws b a pl pl).drop o).take l=Ma.dws b (Mu.pq b a pl o l) (Mu.pj pl o l) (Mu.pj pl o l)) (_:Mu.pq b a pl o l<b ^ Mu.pj pl o l) (_:1=Mu.pn pl e o l) (d:Addr) (hd':H3 d=none),_:=fun e1 e2 e3 d hd'=>close d [q] _ (same_upd (o:=.lst [.ref q]) hd') upd_same (Ne.symm (ne_of_none p3 hd')) e3 (fun x hx=>(show x=q by simpa using hx)▸Ne.symm epq) (one _ (same_upd hd') e1 e2)
      by_cases hA:o+l≤pl
      · have j1:Mu.pj pl o l=l:=by unfold Mu.pj;rw [if_pos hA]
        have j2:Mu.pq b a pl o l=a / b ^ (pl - o - l) % b ^ l:=by unfold Mu.pq;rw [if_pos hA]
        have j3:Mu.pn pl e o l=1:=by unfold Mu.pn;rw [if_pos hA]
        rw [decide_eq_true (show ((o:Nat):Int)≤(pl:Int) by lia)]
        refine iteT ⟨_,rfl,_,rfl,_,_,rfl,rfl,_,_,rfl,rfl,_,rfl,?_⟩
        rw [decide_eq_false (show ¬ (pl:Int)<(o:Int)+(l:Int) by lia)]
        refine iteF ⟨_,rfl,.inl ⟨rfl,_,SqL.of p3⟩,_,rfl,sz (by simp),fun d hd'=>?_⟩
        obtain ⟨c1,c2,c3,c4⟩:=single (by rw [j1,j2];exact Mu.dws_cut hA) (by rw [j1,j2];exact Nat.mod_lt _ (Nat.pow_pos b0)) j3.symm d hd'
        refine ⟨p,_,_,rfl,rfl,(same_upd hd') _ _ p3,szl (by rw [List.length_map];lia),?_⟩
        refine ⟨_,rfl,_,rfl,_,_,rfl,rfl,bs++[d],some (.int (l:Int)),some (.ref q),?_,c1,c2,c3,c4⟩
        rw [es];push_cast;rfl
      by_cases hC:pl<o
      · have j1:Mu.pj pl o l=0:=by unfold Mu.pj;rw [if_neg hA,if_neg (by lia)]
        have j2:Mu.pq b a pl o l=0:=by unfold Mu.pq;rw [if_neg hA,if_neg (by lia)]
        have j3:Mu.pn pl e o l=1:=by unfold Mu.pn;rw [if_neg hA,if_neg (by lia)]
        rw [decide_eq_false (show ¬ ((o:Nat):Int)≤(pl:Int) by lia)]
        refine iteF ⟨_,rfl,iteF ⟨_,rfl,.inl ⟨rfl,_,SqL.of p3⟩,_,rfl,sz (by simp),fun d hd'=>?_⟩⟩
        obtain ⟨c1,c2,c3,c4⟩:=single (by rw [j1,j2];exact Mu.dws_cut3 (by lia)) (by rw [j1,j2];exact Nat.pow_pos b0) j3.symm d hd'
        refine ⟨p,_,_,rfl,rfl,(same_upd hd') _ _ p3,szl (by rw [List.length_map];lia),?_⟩
        refine ⟨_,rfl,_,rfl,_,_,rfl,rfl,bs++[d],some (.int (l:Int)),some (.ref q),?_,c1,c2,c3,c4⟩
        rw [es];push_cast;rfl
      · have j1:Mu.pj pl o l=pl - o+1:=by unfold Mu.pj;rw [if_neg hA,if_pos (by lia)]
        have j2:Mu.pq b a pl o l=a % b ^ (pl - o)*b:=by unfold Mu.pq;rw [if_neg hA,if_pos (by lia)]
        have j3:Mu.pn pl e o l=e:=by unfold Mu.pn;rw [if_neg hA,if_pos (by lia)]
        rw [decide_eq_true (show ((o:Nat):Int)≤(pl:Int) by lia)]
        refine iteT ⟨_,rfl,_,rfl,_,_,rfl,rfl,_,_,rfl,rfl,_,rfl,?_⟩
        rw [decide_eq_true (show (pl:Int)<(o:Int)+(l:Int) by lia)]
        have eg3:=Mu.dws_cut2 (b:=b) (a:=a) (pl:=pl) (o:=o) (l:=l) (by lia) (by lia)
        have b16:=ok.b16
        refine iteT ⟨_,rfl,.inl ⟨rfl,_,SqL.of p3⟩,_,rfl,_,rfl,by lia,by lia,comp_range (lo:=0) (n:=(e:Int).toNat) (fun m ys H4=>∃ rs:List Addr,ys=rs.map V.ref∧rs.length=m∧(∀ x∈rs,x≠p)∧Same H3 H4∧RowsD H4 b (pl - o+1) (a % b ^ (pl - o)*b) rs)
          ⟨[],rfl,rfl,fun x hx=>by simp at hx,Same.refl _,fun t x h=>by simp at h⟩ ?_ ?_⟩
        · rintro m ys H4 hm ⟨rs,rfl,hrl,hne,s4,RD⟩
          have hme:m<e:=by lia
          refine ⟨szl (by rw [List.length_map];lia),_,rfl,_,rfl,sz (by simp),fun t ht=>?_⟩
          have s45:Same H4 _:=same_upd (o:=.lst [.int (0+(m:Int))]) ht
          have s5:=s4.trans s45
          have u5:(upd H4 t (.lst [.int (0+(m:Int))])) t=_:=upd_same
          generalize upd H4 t (.lst [.int (0+(m:Int))])=H5 at s45 s5 u5⊢
          refine ⟨q,t,_,_,rfl,rfl,s5 _ _ u3,u5,sz (by rw [eg3,natV,List.length_map,Ma.dws_len];simp;lia),fun r hr'=>?_⟩
          have s6:=same_upd (o:=.lst (natV (((Ma.dws b a pl pl).drop o).take l)++[.int (0+(m:Int))])) hr'
          have u6:(upd H5 r (.lst (natV (((Ma.dws b a pl pl).drop o).take l)++[.int (0+(m:Int))]))) r=_:=upd_same
          have s46:Same H4 (upd H5 r (.lst (natV (((Ma.dws b a pl pl).drop o).take l)++[.int (0+(m:Int))]))):=s45.trans s6
          refine ⟨rs++[r],by rw [List.map_append];rfl,by simp [hrl],fun x hx=>?_,s4.trans s46,fun t' x h=>?_⟩
          · rcases List.mem_append.mp hx with hx | hx
            · exact hne x hx
            · have:x=r:=by simpa using hx
              rw [this]
              exact Ne.symm (ne_of_none (s5 _ _ p3) hr')
          · by_cases ht':t'<rs.length
            · rw [List.getElem?_append_left ht'] at h
              exact RD.keep s46 t' x h
            · have e1:t'=m:=by
                have:=(List.getElem?_eq_some_iff.mp h).1
                simp at this
                lia
              subst e1
              rw [List.getElem?_append_right (by lia),hrl,Nat.sub_self] at h
              have e2:r=x:=by simpa using h
              subst e2
              have hmb:t'<b:=by lia
              refine ⟨?_,?_⟩
              · rw [u6,eg3,Mg.dws_up b _ t' (pl - o) hmb]
                simp [natV]
              · rw [Nat.pow_succ]
                have h1:a % b ^ (pl - o)<b ^ (pl - o):=Nat.mod_lt _ (Nat.pow_pos b0)
                have h2:(a % b ^ (pl - o)+1)*b≤b ^ (pl - o)*b:=Nat.mul_le_mul_right b h1
                rw [Nat.add_mul] at h2
                lia
        · rintro ys H4 ⟨rs,rfl,hrl,hne,s4,RD⟩ D hD
          have s5:=s4.trans (same_upd (o:=.lst (rs.map V.ref)) hD)
          obtain ⟨c1,c2,c3,c4⟩:=close D rs _ s5 upd_same (Ne.symm (ne_of_none (s4 _ _ p3) hD)) (by rw [j3,hrl];lia) hne (by rw [j1,j2];exact RD.keep (same_upd hD))
          refine ⟨p,_,_,rfl,rfl,s5 _ _ p3,szl (by rw [List.length_map];lia),?_⟩
          refine ⟨_,rfl,_,rfl,_,_,rfl,rfl,bs++[D],some (.int (l:Int)),some (.ref q),?_,c1,c2,c3,c4⟩
          rw [es];push_cast;rfl
    · rintro σ H2 ⟨bs,v5,v6,rfl,s2,hp2,hl2,B2⟩
      refine ⟨_,rfl,k p bs H2 hp s2 hp2 (by rw [hl2];simp [natV]) B2⟩
end
end Hv
namespace Mu
open Me Mg
noncomputable abbrev Stre:=Nat×Nat×Nat
noncomputable abbrev sLo (b S:Nat) (x:Stre):Nat:=x.1*b ^ (S - x.2.1)
noncomputable abbrev sN (b S:Nat) (x:Stre):Nat:=x.2.2*b ^ (S - x.2.1 - 1)
noncomputable def strS (b S:Nat) (L:List Stre) (g:Nat→Int):Int:=(L.map fun x=>ns (fun i=>g (sLo b S x+i)) (sN b S x)).sum
structure StrOk (b S:Nat) (x:Stre):Prop where
  pl:x.2.1<S
  e1:1≤x.2.2
  eb:x.2.2≤b
  ha:x.1<b ^ x.2.1
noncomputable def upTo (b S n:Nat):Nat→List Stre
  | 0=>[]
  | i+1=>upTo b S n i++if 0<n / b ^ (S - 1 - i) % b then [(n / b ^ (S - i),i,n / b ^ (S - 1 - i) % b)] else []
theorem upTo_ok {b S n:Nat} (hb:0<b) (hn:n<b ^ S):∀ i,i≤S→∀ x∈upTo b S n i,StrOk b S x
  | 0,_,x,hx=>by simp [upTo] at hx
  | i+1,hi,x,hx=>by
    rw [upTo] at hx
    rcases List.mem_append.mp hx with hx | hx
    · exact upTo_ok hb hn i (by lia) x hx
    · split at hx
      · rename_i h
        have e:x=(n / b ^ (S - i),i,n / b ^ (S - 1 - i) % b):=by simpa using hx
        subst e
        refine ⟨by simp only;lia,h,Nat.le_of_lt (Nat.mod_lt _ hb),?_⟩
        show n / b ^ (S - i)<b ^ i
        rw [Nat.div_lt_iff_lt_mul (Nat.pow_pos hb),← Nat.pow_add]
        have:i+(S - i)=S:=by lia
        rw [this]
        exact hn
      · simp at hx
theorem upTo_len (b S n:Nat):∀ i,(upTo b S n i).length≤i
  | 0=>by simp [upTo]
  | i+1=>by
    rw [upTo,List.length_append]
    have:=upTo_len b S n i
    split <;> simp <;> lia
theorem strS_app (b S:Nat) (L M:List Stre) (g:Nat→Int):strS b S (L++M) g=strS b S L g+strS b S M g:=by simp [strS]
theorem upTo_sum {b S n:Nat} (hb:0<b) (hn:n<b ^ S) (g:Nat→Int):∀ i,i≤S→strS b S (upTo b S n i) g=ns g (n / b ^ (S - i)*b ^ (S - i))
  | 0,_=>by
    rw [Nat.sub_zero,Nat.div_eq_of_lt hn,Nat.zero_mul]
    rfl
  | i+1,hi=>by
    rw [upTo,strS_app,upTo_sum hb hn g i (by lia)]
    have e1:S - (i+1)=S - 1 - i:=by lia
    have e2:S - i=S - 1 - i+1:=by lia
    rw [e1]
    generalize hk:S - 1 - i=k at *
    have e3:n / b ^ k*b ^ k=n / b ^ (k+1)*b ^ (k+1)+n / b ^ k % b*b ^ k:=by
      have h1:=Nat.div_add_mod (n / b ^ k) b
      rw [Nat.div_div_eq_div_mul,← Nat.pow_succ] at h1
      have h2:n / b ^ (k+1)*b ^ (k+1)=b*(n / b ^ (k+1))*b ^ k:=by
        rw [Nat.pow_succ' (m:=b) (n:=k)]
        rw [Nat.mul_comm b (n / _),Nat.mul_assoc]
      rw [h2,← Nat.add_mul,h1]
    rw [e2,e3,ns_add]
    congr 1
    split
    · rename_i h
      have e4:S - i - 1=k:=by lia
      simp only [strS,sLo,sN,List.map_cons,List.map_nil,List.sum_cons,List.sum_nil,e2,Int.add_zero]
      have e5:k+1 - 1=k:=by lia
      rw [e5]
    · rename_i h
      have e6:n / b ^ k % b=0:=by lia
      rw [e6,Nat.zero_mul]
      rfl
theorem upTo_all {b S n:Nat} (hb:0<b) (hn:n<b ^ S) (g:Nat→Int):strS b S (upTo b S n S) g=ns g n:=by
  rw [upTo_sum hb hn g S (Nat.le_refl _),Nat.sub_self,Nat.pow_zero,Nat.div_one,Nat.mul_one]
theorem whole_sum {b S:Nat} (hS:0<S) (g:Nat→Int):strS b S [(0,0,b)] g=ns g (b ^ S):=by
  have e:b*b ^ (S - 1)=b ^ S:=by
    rw [← Nat.pow_succ']
    congr 1
    lia
  simp only [strS,sLo,sN,List.map_cons,List.map_nil,List.sum_cons,List.sum_nil,Nat.sub_zero,Nat.zero_mul,Nat.zero_add,Int.add_zero,e]
theorem dws_take {b n S i:Nat} (hb:0<b) (hn:n<b ^ S) (hi:i≤S):(Ma.dws b n S S).take i=Ma.dws b (n / b ^ (S - i)) i i:=by
  have:=dws_cut (b:=b) (a:=n) (pl:=S) (o:=0) (l:=i) (by lia)
  rw [List.drop_zero,Nat.sub_zero] at this
  rw [this,Nat.mod_eq_of_lt]
  rw [Nat.div_lt_iff_lt_mul (Nat.pow_pos hb),← Nat.pow_add]
  have:i+(S - i)=S:=by lia
  rw [this]
  exact hn
end Mu
namespace Hv
open PySem L2
noncomputable def StrAt (H:Hp) (b:Nat) (t:Addr) (x:Mu.Stre):Prop:=∃ h,H t=some (.tup [.ref h,.int (x.2.2:Int)])∧H h=some (.lst (natV (Ma.dws b x.1 x.2.1 x.2.1)))
theorem StrAt.keep {H H':Hp} {b:Nat} {t:Addr} {x:Mu.Stre} (h:StrAt H b t x) (s:Same H H'):StrAt H' b t x:=let ⟨a,h1,h2⟩:=h;⟨a,s _ _ h1,s _ _ h2⟩
noncomputable def spStretches:Sp:=fun vs H Q _=>∃ f a c b ps ws,∃ n:Nat,vs=[.ref f,.int n]∧FrAt H f a c b ps ws∧n≤b ^ ps.sum∧
  ∀ (p:Addr) (ts:List Addr) (L:List Mu.Stre) (H':Hp),H p=none→Same H H'→H' p=some (.lst (ts.map V.ref))→Paired (StrAt H' b) ts L→L.length≤24→(∀ x∈L,Mu.StrOk b ps.sum x)→(∀ g,Mu.strS b ps.sum L g=Mg.ns g n)→Q (.ref p) H'
section
variable {P:Program} {w:World} {K:PySem.W.Frag} {mg:Str→Option Value} {base:Heap}
theorem scStretches:FnScope ["frame","n","figures"] ["frame","n"] (defScope sStretches):=⟨rfl,rfl,rfl,by decide +kernel,rfl,by decide +kernel,by decide +kernel⟩
theorem ok_stretches {f:Addr} {fd:FuncData} (F:Fun K "stretches_below" "stretches_below" sStretches f fd) (T:Txt mg) (D6:Def P w K mg base 6 "how_many" ["frame"] spHowMany) (D8:Def P w K mg base 8 "figures_of" ["frame","n"] spFigures):FnOk P w K mg base CX0 9 f fd ["frame","n"] spStretches:=by
  refine F.ok scStretches (fun vs H Q E h=>?_) (fun cdv A outer s H vs Q E hr h=>?_)
  · obtain ⟨g,a,c,b,ps,ws,n,rfl,_⟩:=h;rfl
  · obtain ⟨g,a,c,b,ps,ws,n,rfl,G,hn,k⟩:=h
    have nd:=scStretches.nd
    have ok:=G.ok
    have hsum:=ok.sum
    have b2:=ok.b2
    have b0:0<b:=by lia
    refine ⟨_,pss_cons (ps_if (pt_cmpR op_eq (pv 1) (pe_fn D6 (hr.mono (by decide)) (by rfl) (pa_cons (pv 0) pa_nil)) (nomark _)) (pss_one (ps_ret (pe_lst (pa_cons (pe_tup (pa_cons (pe_lst pa_nil) (pa_cons (ixt (pv 0) pe_int) pa_nil))) pa_nil)))) pss_nil)
      (pss_cons (ps_set (i:=2) nd rfl (Or.inr rfl) (pe_fn D8 hr (by rfl) (pa_cons (pv 0) (pa_cons (pv 1) pa_nil))))
      (pss_one (ps_ret (pe_cmp1 (defScope sStretches) ["frame","n","figures"] ["figures"] [2] rfl (pi_range1 (by rfl) T.range (pa_cons (lenS T.len (by rfl) (pv 2)) pa_nil)) (fun cl C s H fp=>pf_one (pt_cmpR op_gt (ixlK K rfl (pv 1) (pv 0)) pe_int (nomark _)))
        (fun cl C s H fp=>pe_tup (pa_cons (pe_slice (sl_listK K rfl) (pv 1) po_none (po_some (pv 0))) (pa_cons (ixlK K rfl (pv 1) (pv 0)) pa_nil))) (by decide +kernel))))),?_⟩
    refine ⟨_,rfl,_,rfl,g,a,c,b,ps,ws,rfl,G,fun H1 s1=>⟨rfl,_,rfl,?_⟩⟩
    have G1:=G.keep s1
    by_cases he:n=b ^ ps.sum
    · rw [decide_eq_true (by rw [he])]
      refine iteT ⟨sz (by decide),fun p1 hp1=>?_⟩
      have t1:=same_upd (o:=.lst []) hp1
      have G2:=G1.keep t1
      have u1:(upd H1 p1 (.lst [])) p1=_:=upd_same
      generalize upd H1 p1 (.lst [])=H2 at t1 G2 u1⊢
      refine ⟨_,rfl,_,_,_,_,rfl,rfl,SqT.of G2.tp,rfl,sz (by simp),fun p2 hp2=>⟨sz (by simp),fun p3 hp3=>?_⟩⟩
      have t2:=same_upd (o:=.tup [.ref p1,.int (b:Int)]) hp2
      have t3:=same_upd (o:=.lst [.ref p2]) hp3
      refine k p3 [p2] [(0,0,b)] _ (s1.free (t1.free (t2.free hp3))) (((s1.trans t1).trans t2).trans t3) upd_same (.cons ⟨p1,t3 _ _ upd_same,t3 _ _ (t2 _ _ u1)⟩ .nil) (by simp) (fun x hx=>?_) (fun g=>?_)
      · have:x=(0,0,b):=by simpa using hx
        subst this
        exact ⟨by simp only;lia,by simp only;lia,Nat.le_refl _,by simp⟩
      · rw [he]
        exact Mu.whole_sum (by lia) g
    · have hlt:n<b ^ ps.sum:=by lia
      rw [decide_eq_false (by intro z;cases z;exact he rfl)]
      refine iteF ⟨_,rfl,_,rfl,g,a,c,b,ps,ws,n,rfl,G1,hlt,fun r H2 hr1 s2 h2=>?_⟩
      have el:(natV (Ma.dws b n ps.sum ps.sum)).length=ps.sum:=by rw [natV,List.length_map,Ma.dws_len]
      refine ⟨_,rfl,r,_,rfl,.inl (SqL.of h2),_,rfl,by lia,by lia,comp_range (lo:=0) (n:=(((natV (Ma.dws b n ps.sum ps.sum)).length:Nat):Int).toNat) (fun i ys H3=>∃ ts:List Addr,ys=ts.map V.ref∧Same H2 H3∧Paired (StrAt H3 b) ts (Mu.upTo b ps.sum n i)) ⟨[],rfl,Same.refl _,.nil⟩ ?_ ?_⟩
      · rintro i ys H3 hi ⟨ts,rfl,s3,PR⟩
        have hi':i<ps.sum:=by lia
        have tl:ts.length≤i:=by rw [Paired.length PR];exact Mu.upTo_len b ps.sum n i
        have ez:(0:Int)+(i:Int)=(i:Int):=Int.zero_add _
        have ea:atI (natV (Ma.dws b n ps.sum ps.sum)) (0+(i:Int))=some (.int ((n / b ^ (ps.sum - 1 - i) % b:Nat):Int)):=by
          rw [ez]
          exact atI_nat (by rw [natV,List.getElem?_map,Mu.dws_at hi'];rfl)
        refine ⟨szl (by rw [List.length_map];lia),_,rfl,_,rfl,r_ixl (s3 _ _ h2) ea ⟨_,_,rfl,rfl,_,rfl,?_⟩⟩
        by_cases hd:0<n / b ^ (ps.sum - 1 - i) % b
        · rw [decide_eq_true (by lia)]
          refine iteT ⟨_,rfl,_,rfl,_,rfl,r,_,rfl,SqL.of (s3 _ _ h2),fun q hq=>?_⟩
          have eg:cutV (natV (Ma.dws b n ps.sum ps.sum)) none (some (0+(i:Int)))=natV (Ma.dws b (n / b ^ (ps.sum - i)) i i):=by
            rw [ez,cut_to,← Mu.dws_take b0 hlt (by lia)]
            simp [natV,List.map_take]
          rw [eg]
          have t4:=same_upd (o:=.lst (natV (Ma.dws b (n / b ^ (ps.sum - i)) i i))) hq
          have u4:(upd H3 q (.lst (natV (Ma.dws b (n / b ^ (ps.sum - i)) i i)))) q=_:=upd_same
          generalize upd H3 q (.lst (natV (Ma.dws b (n / b ^ (ps.sum - i)) i i)))=H4 at t4 u4⊢
          refine ⟨_,rfl,_,rfl,r_ixl (t4 _ _ (s3 _ _ h2)) ea ⟨sz (by simp),fun t ht=>?_⟩⟩
          have t5:=same_upd (o:=.tup [.ref q,.int ((n / b ^ (ps.sum - 1 - i) % b:Nat):Int)]) ht
          refine ⟨ts++[t],by rw [List.map_append];rfl,s3.trans (t4.trans t5),?_⟩
          rw [Mu.upTo,if_pos hd]
          exact Paired.snoc (L2.Paired.mapP PR fun _ _ h=>StrAt.keep h (t4.trans t5)) ⟨q,upd_same,t5 _ _ u4⟩
        · rw [decide_eq_false (by lia)]
          refine iteF ⟨ts,rfl,s3,?_⟩
          rw [Mu.upTo,if_neg hd,List.append_nil]
          exact PR
      · rintro ys H3 ⟨ts,rfl,s3,PR⟩ D hD
        have en:(((natV (Ma.dws b n ps.sum ps.sum)).length:Nat):Int).toNat=ps.sum:=by lia
        rw [en] at PR
        exact k D ts _ _ (s1.free (s2.free (s3.free hD))) ((s1.trans s2).trans (s3.trans (same_upd hD))) upd_same (L2.Paired.mapP PR fun _ _ h=>StrAt.keep h (same_upd hD)) (Nat.le_trans (Mu.upTo_len _ _ _ _) (by lia)) (Mu.upTo_ok b0 hlt _ (Nat.le_refl _)) (Mu.upTo_all b0 hlt)
end
end Hv
namespace Mu
open Me Mg
noncomputable def lo (b a pl o:Nat):Nat:=if o≤pl then a / b ^ (pl - o) else a*b ^ (o - pl)
noncomputable def cn (b pl e o:Nat):Nat:=if o≤pl then 1 else e*b ^ (o - pl - 1)
noncomputable def plo (b a pl o l:Nat):Nat:=pq b a pl o l*b ^ (l - pj pl o l)
noncomputable def pcn (b pl e o l:Nat):Nat:=pn pl e o l*b ^ (l - pj pl o l)
theorem part_step {b a pl e o l:Nat} (hb:0<b) (he:e≤b) :
    lo b a pl (o+l)=lo b a pl o*b ^ l+plo b a pl o l∧cn b pl e (o+l)=cn b pl e o*pcn b pl e o l∧(cn b pl e o=1∨(plo b a pl o l=0∧pcn b pl e o l=b ^ l))∧plo b a pl o l+pcn b pl e o l≤b ^ l:=by
  unfold lo cn plo pcn pj pq pn
  by_cases hA:o+l≤pl
  · have h1:o≤pl:=by lia
    simp only [if_pos hA,if_pos h1,Nat.sub_self,Nat.pow_zero,Nat.mul_one]
    have e1:pl - (o+l)=pl - o - l:=by lia
    have e2:a / b ^ (pl - o)=a / b ^ (pl - o - l) / b ^ l:=by
      rw [Nat.div_div_eq_div_mul,← Nat.pow_add]
      congr 2
      lia
    have h2:a / b ^ (pl - o - l) % b ^ l<b ^ l:=Nat.mod_lt _ (Nat.pow_pos hb)
    refine ⟨?_,trivial,.inl trivial,h2⟩
    rw [e1,e2,Nat.mul_comm]
    exact (Nat.div_add_mod _ _).symm
  · by_cases hC:o≤pl
    · simp only [if_neg hA,if_pos hC]
      obtain ⟨m,hm⟩:∃ m,m=pl - o:=⟨_,rfl⟩
      obtain ⟨r,hr⟩:∃ r,r=l - m - 1:=⟨_,rfl⟩
      have e1:l - (pl - o+1)=r:=by lia
      have e2:o+l - pl=r+1:=by lia
      have e3:l=m+1+r:=by lia
      rw [e1,e2,← hm]
      have hbl:b ^ l=b ^ m*b*b ^ r:=by rw [e3,Nat.pow_add,Nat.pow_succ]
      have h2:a % b ^ m<b ^ m:=Nat.mod_lt _ (Nat.pow_pos hb)
      have h3:a % b ^ m*b+e≤b ^ m*b:=by
        have:(a % b ^ m+1)*b≤b ^ m*b:=Nat.mul_le_mul_right b h2
        rw [Nat.add_mul] at this
        lia
      refine ⟨?_,?_,.inl trivial,?_⟩
      · have h4:=Nat.div_add_mod a (b ^ m)
        have h5:a*b ^ (r+1)=(b ^ m*(a / b ^ m)+a % b ^ m)*b ^ (r+1):=by rw [h4]
        rw [h5,hbl,Nat.add_mul,Nat.pow_succ']
        congr 1
        · rw [Nat.mul_comm (b ^ m),Nat.mul_assoc,Nat.mul_assoc]
        · rw [Nat.mul_assoc]
      · have e4:r+1 - 1=r:=by lia
        rw [e4,Nat.one_mul]
      · rw [← Nat.add_mul,hbl]
        exact Nat.mul_le_mul_right _ h3
    · have h1:¬ o+l≤pl:=hA
      simp only [if_neg hA,if_neg hC,Nat.zero_mul,Nat.sub_zero,Nat.one_mul,Nat.add_zero,Nat.zero_add,Nat.le_refl,and_true,or_true]
      have e1:o+l - pl=(o - pl)+l:=by lia
      have e2:o+l - pl - 1=(o - pl - 1)+l:=by lia
      rw [e2,e1,Nat.pow_add,Nat.pow_add]
      exact ⟨(Nat.mul_assoc _ _ _).symm,(Nat.mul_assoc _ _ _).symm⟩
theorem lo_zero {b a pl:Nat} (ha:a<b ^ pl):lo b a pl 0=0:=by
  unfold lo
  rw [if_pos (Nat.zero_le _),Nat.sub_zero]
  exact Nat.div_eq_of_lt ha
theorem cn_zero (b pl e:Nat):cn b pl e 0=1:=by unfold cn;rw [if_pos (Nat.zero_le _)]
theorem lo_end {b S:Nat} {x:Stre} (h:x.2.1<S):lo b x.1 x.2.1 S=sLo b S x∧cn b x.2.1 x.2.2 S=sN b S x:=by
  unfold lo cn
  rw [if_neg (by lia),if_neg (by lia)]
  exact ⟨rfl,rfl⟩
end Mu
namespace Hv
open PySem L2
theorem paired_at {α β:Type} {R:α→β→Prop}:∀ {as:List α} {bs:List β},Paired R as bs→∀ {i:Nat} {a:α},as[i]?=some a→∃ b,bs[i]?=some b∧R a b
  | _,_,.cons h t,0,a,e=>by cases e;exact ⟨_,rfl,h⟩
  | _,_,.cons h t,i+1,a,e=>by
    rw [List.getElem?_cons_succ] at e
    obtain ⟨b,h1,h2⟩:=paired_at t e
    exact ⟨b,by rw [List.getElem?_cons_succ];exact h1,h2⟩
theorem ref_at {qs:List Addr} {i:Nat} {x:V} (h:(qs.map V.ref)[i]?=some x):∃ q,qs[i]?=some q∧x=.ref q:=by
  rw [List.getElem?_map] at h
  cases e:qs[i]? with
  | none=>rw [e] at h;cases h
  | some d=>rw [e] at h;exact ⟨d,rfl,(Option.some.inj h).symm⟩
end Hv
namespace Mu
open Me Mg
end Mu
namespace Mu
open Me Mg
noncomputable def wg (b:Nat) (row:List Int) (one:Int):Int×Int:=(ns (fun v=>if ws1 b v row=one then 1 else 0) (b ^ row.length),ns (fun v=>if ws1 b v row=one then (v:Int) else 0) (b ^ row.length))
noncomputable def lst (b:Nat) (rows:List (List Int)) (one:Int):List ((Int×Int)×Int):=rows.map fun row=>(wg b row one,((b ^ row.length:Nat):Int))
theorem sums_app {b:Nat} (hb:0<b):∀ (ps1 ps2:List Nat) (ws:List Int) (u z:Nat),u<b ^ ps1.sum→z<b ^ ps2.sum→ws.length=ps1.sum+ps2.sum→sumsN b (u*b ^ ps2.sum+z) (ps1++ps2) ws=sumsN b u ps1 (ws.take ps1.sum)++sumsN b z ps2 (ws.drop ps1.sum)
  | [],ps2,ws,u,z,hu,hz,hw=>by
    have h0:u=0:=by simpa using hu
    subst h0
    have e:sumsN b 0 [] (ws.take ([]:List Nat).sum)=[]:=rfl
    rw [e]
    simp
  | p::ps1,ps2,ws,u,z,hu,hz,hw=>by
    rw [List.sum_cons] at hu hw
    have hL0:0<b ^ ps1.sum:=Nat.pow_pos hb
    have em:u=u / b ^ ps1.sum*b ^ ps1.sum+u % b ^ ps1.sum:=by rw [Nat.mul_comm];exact (Nat.div_add_mod u _).symm
    have hm2:u % b ^ ps1.sum<b ^ ps1.sum:=Nat.mod_lt _ hL0
    have hd:u / b ^ ps1.sum<b ^ p:=Nat.div_lt_of_lt_mul (by rw [← Nat.pow_add,Nat.add_comm];exact hu)
    rw [em]
    generalize u / b ^ ps1.sum=d at *
    generalize u % b ^ ps1.sum=m at *
    have e1:(d*b ^ ps1.sum+m)*b ^ ps2.sum+z=d*b ^ (ps1++ps2).sum+(m*b ^ ps2.sum+z):=by
      rw [List.sum_append,Nat.pow_add,Nat.add_mul,Nat.mul_assoc]
      lia
    have hlt:m*b ^ ps2.sum+z<b ^ (ps1++ps2).sum:=by
      rw [List.sum_append,Nat.pow_add]
      have:(m+1)*b ^ ps2.sum≤b ^ ps1.sum*b ^ ps2.sum:=Nat.mul_le_mul_right _ hm2
      rw [Nat.add_mul] at this
      lia
    rw [e1,List.cons_append,sums_cons hb hlt (by rw [List.sum_append];lia),sums_app hb ps1 ps2 (ws.drop p) m z hm2 hz (by rw [List.length_drop];lia),List.sum_cons]
    rw [sums_cons hb hm2 (by rw [List.length_take];lia),List.take_take,List.drop_take,List.drop_drop,List.cons_append]
    have e2:min p (p+ps1.sum)=p:=by lia
    have e3:p+ps1.sum - p=ps1.sum:=by lia
    rw [e2,e3]
end Mu
namespace Mu
open Me Mg
end Mu
namespace Mu
open Me Mg
theorem sums_snoc {b:Nat} (hb:0<b) {ps1:List Nat} {p u v:Nat} {ws:List Int} (hu:u<b ^ ps1.sum) (hv:v<b ^ p) (hw:ps1.sum+p≤ws.length):sumsN b (u*b ^ p+v) (ps1++[p]) (ws.take (ps1.sum+p))=sumsN b u ps1 (ws.take ps1.sum)++[ws1 b v ((ws.drop ps1.sum).take p)]:=by
  have hs:[p].sum=p:=by simp
  have:=sums_app hb ps1 [p] (ws.take (ps1.sum+p)) u v hu (by rw [hs];exact hv) (by rw [List.length_take,hs];lia)
  rw [hs] at this
  rw [this,List.take_take,Nat.min_eq_left (by lia),List.drop_take]
  congr 1
  have e0:ps1.sum+p - ps1.sum=p:=by lia
  rw [e0]
  have hz:(0:Nat)<b ^ ([]:List Nat).sum:=by simp
  have e1:=sums_cons (b:=b) (d:=v) (m:=0) (p:=p) (ps:=[]) (ws:=(ws.drop ps1.sum).take p) hb hz (by rw [List.length_take,List.length_drop];simp;lia)
  have e2:v*b ^ ([]:List Nat).sum+0=v:=by simp
  rw [e2] at e1
  rw [e1,List.take_take,Nat.min_self]
  rfl
end Mu
namespace Mx
open Me Mg Mu
noncomputable def trG:List (List (Int×Int))→(List Int→Int)→Int
  | [],F=>F []
  | g::gs,F=>tg g fun x=>trG gs fun v=>F (x::v)
theorem trG_congrB {lo hi:Int}:∀ {gs:List (List (Int×Int))} {F G:List Int→Int},(∀ g∈gs,∀ k∈keys g,lo≤k∧k≤hi)→(∀ v,v.length=gs.length→(∀ x∈v,lo≤x∧x≤hi)→F v=G v)→trG gs F=trG gs G
  | [],_,_,_,h=>h [] rfl fun _ z=>by simp at z
  | g :: gs, _, _, hk, h => tg_congrK fun x hx => trG_congrB (fun r hr => hk r (by simp [hr])) fun v hv hb => h (x :: v) (by simp [hv]) fun y hy => by
      rcases List.mem_cons.mp hy with rfl | hy
      · exact hk g (by simp) _ hx
      · exact hb y hy
theorem trG_congr:∀ {gs:List (List (Int×Int))} {F G:List Int→Int},(∀ v,v.length=gs.length→F v=G v)→trG gs F=trG gs G
  | [],_,_,h=>h [] rfl
  | _::gs,_,_,h=>tg_congr fun x=>trG_congr fun v hv=>h (x::v) (by simp [hv])
theorem trG_mul (c:Int):∀ (gs:List (List (Int×Int))) (F:List Int→Int),trG gs (fun v=>c*F v)=c*trG gs F
  | [],_=>rfl
  | g::gs,F=>by
    show tg _ _=c*tg _ _
    rw [← tg_mul]
    exact tg_congr fun x=>trG_mul c gs _
theorem trG_sub:∀ (gs:List (List (Int×Int))) (F G:List Int→Int),trG gs (fun v=>F v - G v)=trG gs F - trG gs G
  | [],_,_=>rfl
  | g::gs,F,G=>by
    show tg _ _=tg _ _ - tg _ _
    rw [← tg_sub]
    exact tg_congr fun x=>trG_sub gs _ _
theorem trG_plus:∀ (gs:List (List (Int×Int))) (F G:List Int→Int),trG gs (fun v=>F v+G v)=trG gs F+trG gs G
  | [],_,_=>rfl
  | g::gs,F,G=>by
    show tg _ _=tg _ _+tg _ _
    rw [← tg_plus]
    exact tg_congr fun x=>trG_plus gs _ _
theorem trG_zero (gs:List (List (Int×Int))):trG gs (fun _=>0)=0:=by
  have:=trG_mul 0 gs fun _=>0
  simp only [Int.zero_mul] at this
  exact this
theorem trG_sm (gs:List (List (Int×Int))) (F:Int→List Int→Int) (a:Int):∀ n:Nat,trG gs (fun v=>Mq.sm (fun t=>F t v) a n)=Mq.sm (fun t=>trG gs (F t)) a n
  | 0=>trG_zero gs
  | n+1=>by
    simp only [Mq.sm]
    rw [trG_plus,trG_sm gs F a n]
theorem trG_prod (h:Int→Int):∀ gs:List (List (Int×Int)),trG gs (fp h)=gs.foldl (fun m g=>m*tg g h) 1
  | []=>rfl
  | g::gs=>by
    have e:∀ (rs:List (List (Int×Int))) (c:Int),rs.foldl (fun m g=>m*tg g h) c=c*rs.foldl (fun m g=>m*tg g h) 1:=fun rs=>by
      induction rs with
      | nil=>intro c;simp
      | cons r rs ih=>intro c;rw [List.foldl_cons,List.foldl_cons,ih (c*_),ih (1*_),Int.one_mul,Int.mul_assoc]
    rw [List.foldl_cons,e gs,Int.one_mul,← trG_prod h gs]
    show tg g (fun x=>trG gs fun v=>fp h (x::v))=_
    have e2:∀ x,trG gs (fun v=>fp h (x::v))=trG gs (fp h)*h x:=fun x=>by
      rw [Int.mul_comm,← trG_mul]
      exact trG_congr fun v _=>by
        unfold fp
        rw [List.foldl_cons,fold_out,Int.one_mul]
    rw [tg_congr e2,tg_mul,Int.mul_comm]
theorem tgG_iv {g:List (Int×Int)} (nd:(keys g).Nodup) (a:Int) (n:Nat):tg g (iv a n)=Mq.sm (fun t=>gv g t) a n:=by
  have e:∀ x,iv a n x=Mq.sm (fun t=>if x=t then 1 else 0) a n:=fun x=>(sm_delta x a n).symm
  rw [tg_congr e,tg_sm g (fun t x=>if x=t then 1 else 0)]
  apply Mq.sm_congr
  intro t _ _
  exact tg_delta nd
theorem trG_iv {gs:List (List (Int×Int))} (hg:∀ g∈gs,DOk g) (a:Int) (n:Nat):trG gs (fp (iv a n))=Mq.pr (fG gs) a n:=by
  rw [trG_prod]
  unfold Mq.pr fG
  rw [List.foldl_map]
  have key:∀ (rs:List (List (Int×Int))) (c:Int),(∀ g∈rs,DOk g)→rs.foldl (fun m g=>m*tg g (iv a n)) c=rs.foldl (fun m g=>m*Mq.sm (fun t=>gv g t) a n) c:=fun rs=>by
    induction rs with
    | nil=>intro c _;rfl
    | cons r rs ih =>
      intro c h
      rw [List.foldl_cons,List.foldl_cons,tgG_iv (h r (by simp)).nd]
      exact ih _ fun g hg=>h g (by simp [hg])
  exact key gs 1 hg
theorem near_trG {gs:List (List (Int×Int))} (hne:0<gs.length) (hg:∀ g∈gs,DOk g) (d:Nat):nearG gs d=trG gs fun v=>if sprd v≤d then 1 else 0:=by
  have B:=boundsG hne hg
  have nl:0<(losG gs).length:=by rw [losG,List.length_map];exact hne
  have nh:0<(hisG gs).length:=by rw [hisG,List.length_map];exact hne
  rw [trG_congrB (G:=fun v=>Mq.sm (fun a=>fp (iv a (d+1)) v - fp (iv (a+1) d) v) (Ma.minL (losG gs)) (Ma.maxL (hisG gs) - Ma.minL (losG gs)+1).toNat) (lo:=Ma.minL (losG gs)) (hi:=Ma.maxL (hisG gs))
    (fun g hgm k hk=>⟨?_,?_⟩) fun v hv hx=>?_]
  · rw [trG_sm gs fun a v=>fp (iv a (d+1)) v - fp (iv (a+1) d) v]
    unfold nearG
    apply Mq.sm_congr
    intro a _ _
    rw [trG_sub,trG_iv hg,trG_iv hg]
    rfl
  · have h1:=(Ma.minL_spec _ (hg g hgm).ne).2 k hk
    have h2:=(Ma.minL_spec _ nl).2 _ (List.mem_map.mpr ⟨g,hgm,rfl⟩)
    lia
  · have h1:=(Ma.maxL_spec _ (hg g hgm).ne).2 k hk
    have h2:=(Ma.maxL_spec _ nh).2 _ (List.mem_map.mpr ⟨g,hgm,rfl⟩)
    lia
  · have hv0:0<v.length:=by lia
    have m1:=hx _ (Ma.minL_spec v hv0).1
    exact win hv0 (by lia) (by lia)
theorem trG_snoc (g:List (Int×Int)):∀ (gs:List (List (Int×Int))) (F:List Int→Int),trG (gs++[g]) F=trG gs fun v=>tg g fun x=>F (v++[x])
  | [],F=>rfl
  | h::gs,F=>by
    show tg h (fun x=>trG (gs++[g]) fun v=>F (x::v))=tg h fun x=>trG gs fun v=>tg g fun y=>F (x::v++[y])
    exact tg_congr fun x=>trG_snoc g gs _
structure RepC (g:List (Int×Int)) (lo n:Nat) (s:Nat→Int):Prop where
  ok:DOk g
  eq:∀ F:Int→Int,tg g F=ns (fun i=>F (s (lo+i))) n
theorem tr_parts {b:Nat} (hb:0<b) {x:Stre} (he:x.2.2≤b) (h1:1≤x.2.2) (ha:x.1<b ^ x.2.1) {ps:List Nat} {ws:List Int} (hw:ws.length=ps.sum) {gs:List (List (Int×Int))} (hl:gs.length=ps.length)
    (hg:∀ i l row g,ps[i]?=some l→(Ma.cuts ps ws)[i]?=some row→gs[i]?=some g→RepC g (plo b x.1 x.2.1 (ps.take i).sum l) (pcn b x.2.1 x.2.2 (ps.take i).sum l) (fun n=>ws1 b n row)) :
    ∀ j,j≤ps.length→lo b x.1 x.2.1 (ps.take j).sum+cn b x.2.1 x.2.2 (ps.take j).sum≤b ^ (ps.take j).sum∧∀ F:List Int→Int,trG (gs.take j) F=ns (fun k=>F (sumsN b (lo b x.1 x.2.1 (ps.take j).sum+k) (ps.take j) (ws.take (ps.take j).sum))) (cn b x.2.1 x.2.2 (ps.take j).sum)
  | 0,_=>by
    have e1:(ps.take 0).sum=0:=by simp
    rw [e1,lo_zero ha,cn_zero]
    refine ⟨by simp,fun F=>?_⟩
    show F []=_
    simp only [ns,Int.zero_add]
    rfl
  | j+1,hj=>by
    obtain ⟨ih0,ih⟩:=tr_parts hb he h1 ha hw hl hg j (by lia)
    obtain ⟨l,hl'⟩:∃ l,ps[j]?=some l:=⟨_,List.getElem?_eq_getElem (by lia)⟩
    obtain ⟨g,hg'⟩:∃ g,gs[j]?=some g:=⟨_,List.getElem?_eq_getElem (by lia)⟩
    have hrow:=Ma.cuts_get ps ws j l hl'
    have R:=hg j l _ g hl' hrow hg'
    have st:=part_step (b:=b) (a:=x.1) (pl:=x.2.1) (e:=x.2.2) (o:=(ps.take j).sum) (l:=l) hb he
    have et:ps.take (j+1)=ps.take j++[l]:=by rw [List.take_add_one,hl'];rfl
    have es:(ps.take (j+1)).sum=(ps.take j).sum+l:=by rw [et,List.sum_append];simp
    have hle:(ps.take j).sum+l≤ws.length:=by
      have h2:=congrArg List.sum (List.take_append_drop (j+1) ps)
      rw [List.sum_append] at h2
      lia
    obtain ⟨A,hA⟩:∃ A,A=(ps.take j).sum:=⟨_,rfl⟩
    have egt:gs.take (j+1)=gs.take j++[g]:=by rw [List.take_add_one,hg'];rfl
    rw [es,st.1,st.2.1]
    refine ⟨?_,fun F=>?_⟩
    · rw [Nat.pow_add]
      have p1:=st.2.2.2
      rcases st.2.2.1 with q | ⟨q1,q2⟩
      · rw [q] at ih0⊢
        have:(lo b x.1 x.2.1 (ps.take j).sum+1)*b ^ l≤b ^ (ps.take j).sum*b ^ l:=Nat.mul_le_mul_right _ ih0
        rw [Nat.add_mul] at this
        lia
      · rw [q1,q2,Nat.add_zero,← Nat.add_mul]
        exact Nat.mul_le_mul_right _ ih0
    · rw [egt,trG_snoc,ih]
      have e2:∀ k,k<cn b x.2.1 x.2.2 (ps.take j).sum→tg g (fun y=>F (sumsN b (lo b x.1 x.2.1 (ps.take j).sum+k) (ps.take j) (ws.take (ps.take j).sum)++[y]))=ns (fun i=>F (sumsN b ((lo b x.1 x.2.1 (ps.take j).sum+k)*b ^ l+(plo b x.1 x.2.1 (ps.take j).sum l+i)) (ps.take (j+1)) (ws.take ((ps.take j).sum+l)))) (pcn b x.2.1 x.2.2 (ps.take j).sum l):=fun k hk=>by
        rw [R.eq]
        refine ns_congr fun i hi=>?_
        have hp:=st.2.2.2
        rw [et,sums_snoc hb (by lia) (by lia) hle]
      rw [ns_congr e2,ns_pairs (fun m=>F (sumsN b m (ps.take (j+1)) (ws.take ((ps.take j).sum+l)))) st.2.2.1]
theorem tr_stretch {b:Nat} (hb:0<b) {x:Stre} {ps:List Nat} {ws:List Int} (SO:StrOk b ps.sum x) (hw:ws.length=ps.sum) {gs:List (List (Int×Int))} (hl:gs.length=ps.length)
    (hg:∀ i l row g,ps[i]?=some l→(Ma.cuts ps ws)[i]?=some row→gs[i]?=some g→RepC g (plo b x.1 x.2.1 (ps.take i).sum l) (pcn b x.2.1 x.2.2 (ps.take i).sum l) (fun n=>ws1 b n row)) (F:List Int→Int) :
    trG gs F=ns (fun k=>F (sumsN b (sLo b ps.sum x+k) ps ws)) (sN b ps.sum x):=by
  have h:=(tr_parts hb SO.eb SO.e1 SO.ha hw hl hg ps.length (Nat.le_refl _)).2 F
  have e1:gs.take ps.length=gs:=by rw [← hl,List.take_length]
  have e2:ws.take ps.sum=ws:=by rw [← hw,List.take_length]
  have hend:=lo_end (b:=b) SO.pl
  rw [e1,List.take_length,e2,hend.1,hend.2] at h
  exact h
end Mx
namespace Mx
open Me Mg Mu
theorem tg_perm {f g:List (Int×Int)} (h:f.Perm g) (F:Int→Int):tg f F=tg g F:=by
  unfold tg
  exact Me.sum_perm (h.map _)
theorem tg_take {f:List (Int×Int)} {i:Nat} {p:Int×Int} (h:f[i]?=some p) (F:Int→Int):tg (f.take (i+1)) F=tg (f.take i) F+p.2*F p.1:=by
  unfold tg
  rw [List.take_add_one,h,List.map_append,List.sum_append]
  simp
theorem RepC.of {g:List (Int×Int)} {lo n:Nat} {s:Nat→Int} (o:Ok g 810) (hn:0<n) (hm:n≤16777216) (eq:∀ F:Int→Int,tg g F=ns (fun i=>F (s (lo+i))) n):RepC g lo n s:=by
  have hne:0<(keys g).length:=by
    cases g with
    | nil =>
      have:=eq fun _=>1
      rw [ns_const] at this
      have e:tg [] (fun _=>(1:Int))=0:=rfl
      rw [e] at this
      lia
    | cons p r=>simp [keys]
  refine ⟨⟨hne,o.nd,o.bd,fun t=>?_⟩,eq⟩
  rw [← tg_delta o.nd,eq]
  refine ⟨ns_nn fun i _=>by split <;> decide,?_⟩
  have h1:=ns_le (g:=fun i=>if s (lo+i)=t then (1:Int) else 0) (h:=fun _=>1) (n:=n) fun i _=>by split <;> decide
  rw [ns_const,Int.mul_one] at h1
  lia
end Mx
namespace Hv
open PySem L2
noncomputable def TailsC (H:Hp) (b:Nat) (ts:List Addr) (ws:List Int):Prop:=∀ (k:Nat) (t:Addr),ts[k]?=some t→∃ g,H t=some (.dK (intsD g))∧g.Perm (Me.waysW b (ws.drop k))
theorem TailsC.keep {H H':Hp} {b:Nat} {ts:List Addr} {ws:List Int} (h:TailsC H b ts ws) (s:Same H H'):TailsC H' b ts ws:=fun k t e=>let ⟨g,a1,a2⟩:=h k t e;⟨g,s _ _ a1,a2⟩
noncomputable def spTailsP:Sp:=fun vs H Q _=>∃ (b:Nat) (c:Addr) (ws:List Int),vs=[.int b,.ref c]∧H c=some (.lst (ws.map V.int))∧b≤16∧(∀ x∈ws,-9≤x∧x≤9)∧ws.length≤6∧
  ∀ (p:Addr) (ts:List Addr) (H':Hp),H p=none→Same H H'→H' p=some (.lst (ts.map V.ref))→ts.length=ws.length+1→TailsC H' b ts ws→Q (.ref p) H'
noncomputable def TailsCA (H:Hp) (b:Nat) (ps:List Nat) (ws:List Int) (tds:List Addr):Prop:=∀ (i:Nat) (row:List Int) (d:Addr),(Ma.cuts ps ws)[i]?=some row→tds[i]?=some d→∃ ts:List Addr,H d=some (.lst (ts.map V.ref))∧ts.length=row.length+1∧TailsC H b ts row
theorem TailsCA.keep {H H':Hp} {b:Nat} {ps:List Nat} {ws:List Int} {tds:List Addr} (h:TailsCA H b ps ws tds) (s:Same H H'):TailsCA H' b ps ws tds:=fun i row d a1 a2=>let ⟨ts,b1,b2,b3⟩:=h i row d a1 a2;⟨ts,s _ _ b1,b2,b3.keep s⟩
noncomputable def spTailsPs:Sp:=fun vs H Q _=>∃ f a c b ps ws,vs=[.ref f]∧FrAt H f a c b ps ws∧∀ (p:Addr) (tds:List Addr) (H':Hp),H p=none→Same H H'→H' p=some (.lst (tds.map V.ref))→tds.length=ps.length→TailsCA H' b ps ws tds→Q (.ref p) H'
noncomputable def spWaysFrom:Sp:=fun vs H Q _=>∃ (b:Nat) (rl c tl:Addr) (rs ts:List Addr) (ws:List Int) (q j:Nat),vs=[.ref rl,.ref c,.ref tl]∧H rl=some (.lst (rs.map V.ref))∧H c=some (.lst (ws.map V.int))∧H tl=some (.lst (ts.map V.ref))∧ts.length=ws.length+1∧TailsC H b ts ws∧
  2≤b∧b≤16∧(∀ x∈ws,-9≤x∧x≤9)∧ws.length≤6∧j≤ws.length∧RowsD H b j q rs∧0<rs.length∧
  ∀ (p:Addr) (g:List (Int×Int)) (H':Hp),H p=none→Same H H'→H' p=some (.dK (intsD g))→Mx.RepC g (q*b ^ (ws.length - j)) (rs.length*b ^ (ws.length - j)) (fun n=>Mg.ws1 b n ws)→Q (.ref p) H'
section
variable {P:Program} {w:World} {K:PySem.W.Frag} {mg:Str→Option Value} {base:Heap}
theorem scTailsP:FnScope ["base","weights"] ["base","weights"] (defScope sTailsOfPart):=⟨rfl,rfl,rfl,by decide +kernel,rfl,by decide +kernel,by decide +kernel⟩
theorem ok_tailsp {f:Addr} {fd:FuncData} (F:Fun K "tails_of_part" "tails_of_part" sTailsOfPart f fd) (T:Txt mg) (DV:Def P w K mg base 2 "ways_of_weights" ["base","weights"] spWaysW):FnOk P w K mg base CX0 3 f fd ["base","weights"] spTailsP:=by
  refine F.ok scTailsP (fun vs H Q E h=>?_) (fun cdv A outer s H vs Q E hr h=>?_)
  · obtain ⟨b,c,ws,rfl,_⟩:=h;rfl
  · obtain ⟨b,c,ws,rfl,hc,hb,hw,hl6,k⟩:=h
    refine ⟨_,pss_one (ps_ret (pe_cmp1 (defScope sTailsOfPart) ["base","weights"] ["base","weights"] [0,1] rfl (pi_range1 (by rfl) T.range (pa_cons (pe_op op_add (lenS T.len (by rfl) (pv 1)) pe_int) pa_nil)) (fun cl C s H fp=>pf_nil)
      (fun cl C s H fp=>pe_fn DV hr (by rfl) (pa_cons (pv 1) (pa_cons (pe_slice (sl_listK K rfl) (pv 2) (po_some (pv 0)) po_none) pa_nil))) (by decide +kernel))),?_⟩
    have el:(((ws.map V.int).length:Nat):Int)=(ws.length:Int):=by rw [List.length_map]
    refine ⟨_,rfl,c,_,rfl,.inl (SqL.of hc),_,_,rfl,rfl,_,rfl,by rw [el];lia,by rw [el];lia,comp_range (lo:=0) (n:=((((ws.map V.int).length:Nat):Int)+1).toNat) (fun i ys H'=>∃ ts:List Addr,ys=ts.map V.ref∧ts.length=i∧Same H H'∧TailsC H' b ts ws) ⟨[],rfl,rfl,Same.refl _,fun k t e=>by simp at e⟩ ?_ ?_⟩
    · rintro i ys H1 hi ⟨ts,rfl,htl,s1,TC⟩
      have hi':i≤ws.length:=by rw [el] at hi;lia
      have ei:(0:Int)+(i:Int)=(i:Int):=Int.zero_add _
      rw [ei]
      refine ⟨szl (by rw [List.length_map];lia),_,rfl,_,rfl,_,rfl,_,rfl,c,_,rfl,SqL.of (s1 _ _ hc),fun sl hsl=>?_⟩
      have ec:cutV (ws.map V.int) (some (i:Int)) none=(ws.drop i).map V.int:=by
        unfold cutV
        rw [HT.sIx_nat,HT.sIx_none,List.length_map,Nat.min_eq_left hi',List.map_drop,List.take_of_length_le (by rw [List.length_drop,List.length_map];lia)]
      rw [ec]
      have s2:=same_upd (o:=.lst ((ws.drop i).map V.int)) hsl
      have u2:(upd H1 sl (.lst ((ws.drop i).map V.int))) sl=_:=upd_same
      generalize upd H1 sl (.lst ((ws.drop i).map V.int))=H2 at s2 u2⊢
      refine ⟨b,sl,ws.drop i,rfl,u2,hb,fun x hx=>hw x (List.mem_of_mem_drop hx),by rw [List.length_drop];lia,fun p H3 g hp s3 hp3 perm=>?_⟩
      have S3:=s1.trans (s2.trans s3)
      refine ⟨ts++[p],by simp,by simp [htl],S3,fun k t e=>?_⟩
      by_cases hm:k<ts.length
      · rw [List.getElem?_append_left hm] at e
        exact TC.keep (s2.trans s3) k t e
      · have hk:k=i:=by
          have:=(List.getElem?_eq_some_iff.mp e).1
          simp at this
          lia
        subst hk
        rw [List.getElem?_append_right (by lia),htl,Nat.sub_self] at e
        have e1:p=t:=by simpa using e
        subst e1
        exact ⟨g,hp3,perm⟩
    · rintro ys H1 ⟨ts,rfl,htl,s1,TC⟩ l hl
      have htl':ts.length=ws.length+1:=by rw [htl,el];lia
      exact k l ts _ (s1.free hl) (s1.trans (same_upd hl)) upd_same htl' (TC.keep (same_upd hl))
theorem scTailsPs:FnScope ["frame"] ["frame"] (defScope sTailsOfParts):=⟨rfl,rfl,rfl,by decide +kernel,rfl,by decide +kernel,by decide +kernel⟩
theorem ok_tailsps {f:Addr} {fd:FuncData} (F:Fun K "tails_of_parts" "tails_of_parts" sTailsOfParts f fd) (DC:Def P w K mg base 1 "cut_by_parts" ["frame","row"] spCut) (DT:Def P w K mg base 3 "tails_of_part" ["base","weights"] spTailsP):FnOk P w K mg base CX0 4 f fd ["frame"] spTailsPs:=by
  refine F.ok scTailsPs (fun vs H Q E h=>?_) (fun cdv A outer s H vs Q E hr h=>?_)
  · obtain ⟨g,a,c,b,ps,ws,rfl,_⟩:=h;rfl
  · obtain ⟨g,a,c,b,ps,ws,rfl,G,k⟩:=h
    have ok:=G.ok
    have l4:=ok.l4
    refine ⟨_,pss_one (ps_ret (pe_cmp1 (defScope sTailsOfParts) ["frame"] ["frame"] [0] rfl (pi_list (pe_fn DC (hr.mono (by decide)) (by rfl) (pa_cons (pv 0) (pa_cons (ixt (pv 0) pe_int) pa_nil)))) (fun cl C s H fp=>pf_nil)
      (fun cl C s H fp=>pe_fn DT hr (by rfl) (pa_cons (ixtK K rfl (pv 1) pe_int) (pa_cons (pv 0) pa_nil))) (by decide +kernel))),?_⟩
    refine ⟨_,rfl,_,rfl,_,_,_,_,rfl,rfl,SqT.of G.tp,rfl,g,a,c,b,ps,ws,c,ws,rfl,G,G.hw,fun wp qs H3 s3 hw3 rows=>⟨wp,rfl,⟨_,SqL.of hw3⟩,comp_list (K:=K) (a:=wp) (xs:=qs.map V.ref) (fun i ys H4=>∃ tds:List Addr,ys=tds.map V.ref∧tds.length=i∧Same H3 H4∧TailsCA H4 b ps ws tds)
      ⟨[],rfl,rfl,Same.refl _,fun i row d _ h=>by simp at h⟩ (fun i ys H4 _ p=>by obtain ⟨_,_,_,z,_⟩:=p;exact SqL.of (z _ _ hw3)) ?_ ?_⟩⟩
    · rintro i x ys H4 hx ⟨tds,rfl,htl,s4,TA⟩
      obtain ⟨wq,hwq,rfl⟩:=ref_at hx
      obtain ⟨row,hrow,hwr⟩:=paired_at rows hwq
      have hrm:row∈Ma.cuts ps ws:=List.mem_of_getElem? hrow
      have G4:=(G.keep s3).keep s4
      have hi:i<4:=by
        have h1:=(List.getElem?_eq_some_iff.mp hrow).1
        rw [Ma.cuts_len] at h1
        lia
      refine ⟨szl (by rw [List.length_map];lia),_,rfl,_,_,_,_,rfl,rfl,SqT.of G4.tp,rfl,_,rfl,b,wq,row,rfl,s4 _ _ hwr,ok.b16,fun y hy=>ok.wr y (Ma.cuts_mem hrm y hy),Ma.cuts_short (fun p hp=>(ok.pr p hp).2) hrm,fun p ts H5 hp s5 hp5 hts5 TT=>?_⟩
      refine ⟨tds++[p],by rw [List.map_append];rfl,by simp [htl],s4.trans s5,fun m row' d' a1 a2=>?_⟩
      by_cases hm:m<tds.length
      · rw [List.getElem?_append_left hm] at a2
        exact TA.keep s5 m row' d' a1 a2
      · have hm':m=i:=by
          have:=(List.getElem?_eq_some_iff.mp a2).1
          simp at this
          lia
        subst hm'
        rw [List.getElem?_append_right (by lia),htl,Nat.sub_self] at a2
        have e1:p=d':=by simpa using a2
        subst e1
        rw [hrow] at a1
        cases a1
        exact ⟨ts,hp5,hts5,TT⟩
    · rintro ys H4 ⟨tds,rfl,htl,s4,TA⟩ D hD
      have tdl:tds.length=ps.length:=by rw [htl,List.length_map,Paired.length rows,Ma.cuts_len]
      exact k D tds _ (s3.free (s4.free hD)) (s3.trans (s4.trans (same_upd hD))) upd_same tdl (TA.keep (same_upd hD))
end
end Hv
namespace Hv
open PySem L2
section
variable {P:Program} {w:World} {K:PySem.W.Frag} {mg:Str→Option Value} {base:Heap}
theorem scWaysFrom:FnScope ["rows","weights","tails","ways","row","begun","tail","total"] ["rows","weights","tails"] (defScope sWaysFromBeginnings):=⟨rfl,rfl,rfl,by decide +kernel,rfl,by decide +kernel,by decide +kernel⟩
theorem ok_waysfrom {f:Addr} {fd:FuncData} (F:Fun K "ways_from_beginnings" "ways_from_beginnings" sWaysFromBeginnings f fd) (T:Txt mg) (DW:Def P w K mg base 1 "weighted_sum" ["figures","weights"] spWeighted):FnOk P w K mg base CX0 2 f fd ["rows","weights","tails"] spWaysFrom:=by
  refine F.ok scWaysFrom (fun vs H Q E h=>?_) (fun cdv A outer s H vs Q E hr h=>?_)
  · obtain ⟨b,rl,c,tl,rs,ts,ws,q,j,rfl,_⟩:=h;rfl
  · obtain ⟨b,rl,c,tl,rs,ts,ws,q,j,rfl,hrl,hc,htl,hts,TC,hb2,hb,hw,hl6,hj,RD,hr0,k⟩:=h
    have nd:=scWaysFrom.nd
    have hu:=hu_of hr
    refine ⟨_,pss_cons (ps_set (i:=3) nd rfl (Or.inl rfl) pe_dnewK)
      (pss_cons (ps_for PassesOwn.never rfl (pi_list (pv 0)) (pg_name (i:=4) nd rfl (Or.inl rfl))
        (pss_cons (ps_set (i:=5) nd rfl (Or.inl rfl) (pe_fn DW (hr.mono (by decide)) (by rfl) (pa_cons (pv 4) (pa_cons (pv 1) pa_nil))))
        (pss_cons (ps_set (i:=6) nd rfl (Or.inl rfl) (ixl (pv 2) (lenS T.len (by rfl) (pv 4))))
        (pss_cons (ps_for PassesOwn.never rfl (pi_dict (pv 6)) (pg_name (i:=7) nd rfl (Or.inl rfl))
          (pss_one (ps_dput hu (pv 3) (pe_op op_add (pv 5) (pv 7)) (pe_op op_add (pe_dget2 hu (pv 3) (pe_op op_add (pv 5) (pv 7)) pe_int ⟨rfl,rfl,rfl,rfl⟩) (pe_dget hu (pv 6) (pv 7) (fun _ _=>rfl))) rfl)))
        (pss_thaw pss_nil)))))
      (pss_one (ps_ret (pv 3)))),?_⟩
    intro p hp
    have s0:Same H (upd H p (.dK [])):=same_upd hp
    have u0:(upd H p (.dK [])) p=some (.dK (intsD [])):=upd_same
    generalize upd H p (.dK [])=H0 at s0 u0⊢
    have b0:0<b:=by lia
    obtain ⟨r2,hr2⟩:∃ r,r=ws.drop j:=⟨_,rfl⟩
    have el2:r2.length=ws.length - j:=by rw [hr2,List.length_drop]
    have ews:ws.take j++r2=ws:=by rw [hr2];exact List.take_append_drop j ws
    have hjp:q+(rs.length - 1)<b ^ j:=by
      obtain ⟨a,ha⟩:∃ a,rs[rs.length - 1]?=some a:=⟨_,List.getElem?_eq_getElem (by lia)⟩
      exact (RD _ a ha).2
    have hbig:rs.length*b ^ (ws.length - j)≤16777216:=by
      have h1:rs.length*b ^ (ws.length - j)≤b ^ j*b ^ (ws.length - j):=Nat.mul_le_mul_right _ (by lia)
      rw [← Nat.pow_add,show j+(ws.length - j)=ws.length by lia] at h1
      have h2:b ^ ws.length≤16 ^ 6:=Nat.le_trans (Nat.pow_le_pow_left hb _) (Nat.pow_le_pow_right (by decide) hl6)
      have h16:(16:Nat) ^ 6=16777216:=by decide
      lia
    have hpos:0<rs.length*b ^ (ws.length - j):=Nat.mul_pos hr0 (Nat.pow_pos b0)
    refine ⟨_,rfl,rl,rfl,⟨_,SqL.of (s0 _ _ hrl)⟩,for_list (K:=K) (a:=rl) (xs:=rs.map V.ref) (fun i σ H2=>∃ v4 v5 v6 v7,σ=[some (.ref rl),some (.ref c),some (.ref tl),some (.ref p),v4,v5,v6,v7]∧Same H H2∧∃ gl,H2 p=some (.dK (intsD gl))∧Me.Ok gl 810∧∀ F:Int→Int,Mg.tg gl F=Mg.ns (fun n=>F (Mg.ws1 b (q*b ^ (ws.length - j)+n) ws)) (i*b ^ (ws.length - j)))
      ⟨none,none,none,none,rfl,s0,[],u0,Me.Ok.nil,fun F=>by rw [Nat.zero_mul];rfl⟩ (fun i σ H2 _ h=>by obtain ⟨_,_,_,_,_,z,_⟩:=h;exact SqL.of (z _ _ hrl)) ?_ ?_⟩
    · rintro i x σ H2 hx ⟨v4,v5,v6,v7,rfl,s2,g0,p2,ok2,eq2⟩
      obtain ⟨ra,hra,rfl⟩:=ref_at hx
      obtain ⟨hrow,hlt⟩:=RD i ra hra
      refine ⟨_,rfl,_,rfl,ra,c,_,ws,rfl,s2 _ _ hrow,s2 _ _ hc,hw,by rw [Ma.dws_len];exact hj,hl6,fun H3 s3=>?_⟩
      rw [wz_ws1 hj]
      have S3:=s2.trans s3
      have er:(((natV (Ma.dws b (q+i) j j)).length:Nat):Int)=(j:Int):=by rw [natV,List.length_map,Ma.dws_len]
      obtain ⟨t,e1⟩:∃ t,ts[j]?=some t:=⟨_,List.getElem?_eq_getElem (by lia)⟩
      obtain ⟨g,e2,perm⟩:=TC j t e1
      have ett:atI (ts.map V.ref) (j:Int)=some (.ref t):=atI_nat (by rw [List.getElem?_map,e1];rfl)
      refine ⟨_,rfl,_,rfl,ra,_,rfl,.inl (SqL.of (S3 _ _ hrow)),?_⟩
      refine ⟨tl,_,(((natV (Ma.dws b (q+i) j j)).length:Nat):Int),_,rfl,rfl,SqL.of (S3 _ _ htl),by rw [er];exact ett,?_⟩
      have p3:=s3 _ _ p2
      have t3:=S3 _ _ e2
      have ntp:t≠p:=ne_of_none e2 hp
      rw [← hr2] at perm
      have okW:=Me.ways_ok' (b:=b) (ws:=r2) (fun x hx=>hw x (by rw [hr2] at hx;exact List.mem_of_mem_drop hx)) hb
      have ndg:(Me.keys g).Nodup:=((perm.map _).nodup_iff).mpr okW.nd
      have bdg:∀ x∈Me.keys g,-(135*(r2.length:Int))≤x∧x≤135*(r2.length:Int):=fun x hx=>okW.bd x ((perm.map Prod.fst).mem_iff.mp hx)
      generalize ebg:Mg.ws1 b (q+i) (ws.take j)=bg
      have bgb:=ws1_in (b:=b) (q:=q+i) (r:=ws.take j) b0 hb fun x hx=>hw x (List.mem_of_mem_take hx)
      have blen:(ws.take j).length=j:=by rw [List.length_take];lia
      rw [blen,ebg] at bgb
      refine ⟨_,rfl,t,intsD g,rfl,t3,fun o=>for_dict (fun m σ H4=>∃ v7,σ=[some (.ref rl),some (.ref c),some (.ref tl),some (.ref p),some (.ref ra),some (.int bg),some (.ref t),v7]∧H4 t=some (.frz o (.dK (intsD g)))∧Kp [t] H H4∧∃ g4,H4 p=some (.dK (intsD g4))∧Me.Ok g4 810∧∀ F:Int→Int,Mg.tg g4 F=Mg.tg g0 F+Mg.tg (g.take m) fun x=>F (bg+x))
        ⟨v7,rfl,upd_same,kp_upd (Kp.of S3) (.inl (by simp)),g0,?_,ok2,fun F=>by simp [Mg.tg]⟩ (fun m σ H4 _ h=>by obtain ⟨_,_,z,_⟩:=h;exact z) ?_ ?_⟩
      · rw [upd_ne ntp.symm];exact p3
      · rintro m kk v σ H4 hk ⟨v7,rfl,ft,kp4,g4,p4,ok4,eq4⟩
        obtain ⟨pr,hpr,rfl,rfl⟩:=ints_at hk
        have pm:=List.mem_of_getElem? hpr
        have pb:=bdg pr.1 (List.mem_map.mpr ⟨pr,pm,rfl⟩)
        have dg:DGet H4 t (.int pr.1) (some (.int pr.2)):=by
          have z:=dget_ints (k:=pr.1) (.inr ⟨o,ft⟩)
          rw [Me.look_mem ndg pm] at z
          exact z
        have hlen:=Me.Ok.len (m:=810) ok4
        refine ⟨_,rfl,p,rfl,.inl ⟨_,.inl p4⟩,_,rfl,_,rfl,_,_,rfl,rfl,_,dget_ints (.inl p4),_,rfl,_,rfl,t,.int pr.2,rfl,dg,_,_,getD_int _,rfl,_,rfl,_,rfl,_,rfl,_,_,rfl,rfl,p,_,rfl,dput_ints p4 (by lia),?_⟩
        refine ⟨_,rfl,?_,?_,Me.addTo g4 (bg+pr.1) pr.2,upd_same,?_,fun F=>?_⟩
        · rw [upd_ne ntp];exact ft
        · exact kp_upd kp4 (.inr hp)
        · exact ok4.put (by lia)
        · rw [Mg.tg_add ok4.nd,eq4 F,Mx.tg_take hpr]
          exact Int.add_assoc _ _ _
      · rintro σ H4 ⟨v7,rfl,ft,kp4,g4,p4,ok4,eq4⟩
        have el:(intsD g).length=g.length:=by rw [intsD,List.length_map]
        rw [el,List.take_length] at eq4
        refine ⟨t,o,intsD g,ft,(fun o' u z=>by
          have z':H t=some (.frz o' u):=z
          rw [e2] at z';cases z'),_,_,_,_,rfl,fun x ob e=>?_,g4,?_,ok4,fun F=>?_⟩
        · by_cases hx:x=t
          · rw [hx,upd_same,← e2,← hx];exact e
          · rw [upd_ne hx];exact kp4 x ob e (by simpa using hx)
        · rw [upd_ne ntp.symm];exact p4
        · rw [eq4,eq2,Nat.add_mul,Nat.one_mul,Mg.ns_add,Mx.tg_perm perm,← Mg.ways_all b (fun x=>F (bg+x)) r2,← el2]
          congr 1
          apply Mg.ns_congr
          intro d hd
          have e5:q*b ^ r2.length+(i*b ^ r2.length+d)=(q+i)*b ^ r2.length+d:=by rw [Nat.add_mul];lia
          have e6:=Mu.ws1_parts (b:=b) (d:=q+i) (i:=d) (r1:=ws.take j) (r2:=r2) b0 hd
          rw [ews,ebg] at e6
          show F _=F _
          rw [e5,e6]
    · rintro σ H2 ⟨v4,v5,v6,v7,rfl,s2,gl,p2,ok2,eq2⟩
      rw [List.length_map] at eq2
      exact ⟨_,rfl,k p gl H2 hp s2 p2 (Mx.RepC.of ok2 hpos hbig eq2)⟩
end
end Hv
namespace Mx
open Me Mg Mu
noncomputable def nrI (b d:Nat) (ps:List Nat) (ws:List Int) (m:Nat):Int:=if sprd (sumsN b m ps ws)≤d then 1 else 0
noncomputable def nrN (b d:Nat) (ps:List Nat) (ws:List Int) (n:Nat):Int:=ns (nrI b d ps ws) n
noncomputable def nrS (b d:Nat) (ps:List Nat) (ws:List Int) (x:Stre):Int:=ns (fun i=>nrI b d ps ws (sLo b ps.sum x+i)) (sN b ps.sum x)
theorem near_stretch {b d:Nat} (hb:0<b) {x:Stre} {ps:List Nat} {ws:List Int} (hp:0<ps.length) (SO:StrOk b ps.sum x) (hw:ws.length=ps.sum) {gs:List (List (Int×Int))} (hl:gs.length=ps.length)
    (hg:∀ i l row g,ps[i]?=some l→(Ma.cuts ps ws)[i]?=some row→gs[i]?=some g→RepC g (plo b x.1 x.2.1 (ps.take i).sum l) (pcn b x.2.1 x.2.2 (ps.take i).sum l) (fun n=>ws1 b n row)) (ok:∀ g∈gs,DOk g):nearG gs d=nrS b d ps ws x:=by
  rw [near_trG (by lia) ok,tr_stretch hb SO hw hl hg]
  rfl
theorem nrS_sum {b d:Nat} {ps:List Nat} {ws:List Int} {L:List Stre} {n:Nat} (h:∀ g,strS b ps.sum L g=ns g n):(L.map (nrS b d ps ws)).sum=nrN b d ps ws n:=by
  unfold nrN
  rw [← h]
  rfl
end Mx
namespace Hv
open PySem L2
noncomputable def PartsC (H:Hp) (b:Nat) (ps:List Nat) (ws:List Int) (x:Mu.Stre) (ds:List Addr) (gs:List (List (Int×Int))):Prop:=WaysG H ds gs∧∀ (i l:Nat) (row:List Int) (g:List (Int×Int)),ps[i]?=some l→(Ma.cuts ps ws)[i]?=some row→gs[i]?=some g→
  Mx.RepC g (Mu.plo b x.1 x.2.1 (ps.take i).sum l) (Mu.pcn b x.2.1 x.2.2 (ps.take i).sum l) (fun n=>Mg.ws1 b n row)
noncomputable def spCountBegun:Sp:=fun vs H Q _=>∃ f A c b ps ws,∃ (tl hd:Addr) (tds:List Addr) (x:Mu.Stre) (d:Nat),vs=[.ref f,.ref tl,.int d,.ref hd,.int (x.2.2:Int)]∧FrAt H f A c b ps ws∧H tl=some (.lst (tds.map V.ref))∧tds.length=ps.length∧TailsCA H b ps ws tds∧H hd=some (.lst (natV (Ma.dws b x.1 x.2.1 x.2.1)))∧Mu.StrOk b ps.sum x∧
  ∀ H':Hp,Same H H'→Q (.int (Mx.nrS b d ps ws x)) H'
section
variable {P:Program} {w:World} {K:PySem.W.Frag} {mg:Str→Option Value} {base:Heap}
theorem scCountBegun:FnScope ["frame","tails_by_part","d","head","end","beginnings","weights_by_part","ways_by_part","rows","weights","tails"] ["frame","tails_by_part","d","head","end"] (defScope sCountBegun):=⟨rfl,rfl,rfl,by decide +kernel,rfl,by decide +kernel,by decide +kernel⟩
theorem ok_countbegun {f:Addr} {fd:FuncData} (F:Fun K "count_begun" "count_begun" sCountBegun f fd) (T:Txt mg) (DP:Def P w K mg base 1 "part_beginnings" ["frame","head","end"] spPartBegin) (DC:Def P w K mg base 1 "cut_by_parts" ["frame","row"] spCut)
    (DW:Def P w K mg base 2 "ways_from_beginnings" ["rows","weights","tails"] spWaysFrom) (DJ:Def P w K mg base 2 "count_spread_within" ["ways_by_part","width"] spSpread):FnOk P w K mg base CX0 3 f fd ["frame","tails_by_part","d","head","end"] spCountBegun:=by
  refine F.ok scCountBegun (fun vs H Q E h=>?_) (fun cdv A outer s H vs Q E hr h=>?_)
  · obtain ⟨g,A,c,b,ps,ws,tl,hd,tds,x,d,rfl,_⟩:=h;rfl
  · obtain ⟨g,A',c,b,ps,ws,tl,hd,tds,x,d,rfl,G,htl,htd,TA,hhd,SO,k⟩:=h
    have nd:=scCountBegun.nd
    have ok:=G.ok
    have l4:=ok.l4
    have l2:=ok.l2
    have hsum:=ok.sum
    have hpl:=SO.pl
    refine ⟨_,pss_cons (ps_set (i:=5) nd rfl (Or.inl rfl) (pe_fn DP (hr.mono (by decide)) (by rfl) (pa_cons (pv 0) (pa_cons (pv 3) (pa_cons (pv 4) pa_nil)))))
      (pss_cons (ps_set (i:=6) nd rfl (Or.inl rfl) (pe_fn DC (hr.mono (by decide)) (by rfl) (pa_cons (pv 0) (pa_cons (ixt (pv 0) pe_int) pa_nil))))
      (pss_cons (ps_set (i:=7) nd rfl (Or.inl rfl) (pe_lst pa_nil))
      (pss_cons (ps_for PassesOwn.never rfl (pi_zip3 (by rfl) T.zip (pv 5) (pv 6) (pv 1)) (pg_tup rfl (pgs_cons (pg_name (i:=8) nd rfl (Or.inl rfl)) (pgs_cons (pg_name (i:=9) nd rfl (Or.inl rfl)) (pgs_cons (pg_name (i:=10) nd rfl (Or.inl rfl)) pgs_nil))))
        (pss_one (ps_expr (pe_bm PySem.F.plainAttrs_list PySem.F.slot_list_append PySem.F.type_list_append mt_append (pv 7) (pa_cons (pe_fn DW hr (by rfl) (pa_cons (pv 8) (pa_cons (pv 9) (pa_cons (pv 10) pa_nil)))) pa_nil)))))
      (pss_one (ps_ret (pe_fn DJ hr (by rfl) (pa_cons (pv 7) (pa_cons (pv 2) pa_nil)))))))),?_⟩
    refine ⟨_,rfl,_,rfl,_,rfl,g,A',c,b,ps,ws,hd,x.1,x.2.1,x.2.2,rfl,G,hhd,SO.eb,by lia,fun bp bs H1 hbp s1 hb1 hbl BA=>?_⟩
    have G1:=G.keep s1
    refine ⟨_,rfl,_,rfl,_,_,_,_,rfl,rfl,SqT.of G1.tp,rfl,g,A',c,b,ps,ws,c,ws,rfl,G1,G1.hw,fun wp qs H2 s2 hw2 rows=>?_⟩
    have G2:=G1.keep s2
    have qlen:qs.length=ps.length:=by rw [Paired.length rows,Ma.cuts_len]
    refine ⟨sz (by decide),fun sl hsl=>?_⟩
    have s3:=same_upd (o:=.lst []) hsl
    have hslH:H sl=none:=s1.free (s2.free hsl)
    have u3:(upd H2 sl (.lst [])) sl=_:=upd_same
    have S3:Same H (upd H2 sl (.lst [])):=(s1.trans s2).trans s3
    have S13:Same H1 (upd H2 sl (.lst [])):=s2.trans s3
    generalize upd H2 sl (.lst [])=H3 at s3 u3 S3 S13⊢
    refine ⟨_,rfl,_,rfl,_,rfl,bp,wp,tl,rfl,rfl,rfl,⟨_,SqL.of (S13 _ _ hb1)⟩,⟨_,SqL.of (s3 _ _ hw2)⟩,⟨_,SqL.of (S3 _ _ htl)⟩,for_zip3 (K:=K) (a:=bp) (b:=wp) (c:=tl) (xs:=bs.map V.ref) (ys:=qs.map V.ref) (zs:=tds.map V.ref)
      (fun i σ H4=>∃ (ds:List Addr) (gs:List (List (Int×Int))) (v7 v8 v9:Option V),σ=[some (.ref g),some (.ref tl),some (.int d),some (.ref hd),some (.int (x.2.2:Int)),some (.ref bp),some (.ref wp),some (.ref sl),v7,v8,v9]∧(∀ y ob,H3 y=some ob→y≠sl→H4 y=some ob)∧H4 sl=some (.lst (ds.map V.ref))∧ds.length=i∧PartsC H4 b ps ws x ds gs) (by simp [hbl,qlen]) (by simp [hbl,htd])
      ⟨[],[],none,none,none,rfl,fun y ob e _=>e,u3,rfl,.nil,fun i l row d _ _ h=>by simp at h⟩ ?_ ?_ ?_⟩
    · rintro i σ H4 _ ⟨ds,gs,v7,v8,v9,rfl,kp,_⟩
      exact ⟨SqL.of (kp _ _ (S13 _ _ hb1) (ne_of_none hb1 (s2.free hsl))),SqL.of (kp _ _ (s3 _ _ hw2) (ne_of_none hw2 hsl)),SqL.of (kp _ _ (S3 _ _ htl) (ne_of_none htl hslH))⟩
    · rintro i xb xw xt σ H4 t hb hw ht ⟨ds,gs,v7,v8,v9,rfl,kp,hsl4,hdl,PR⟩ htn
      obtain ⟨br,hbr,rfl⟩:=ref_at hb
      obtain ⟨wq,hwq,rfl⟩:=ref_at hw
      obtain ⟨td,htd',rfl⟩:=ref_at ht
      have hi:i<ps.length:=by have:=(List.getElem?_eq_some_iff.mp hbr).1;lia
      obtain ⟨l,hl⟩:∃ l,ps[i]?=some l:=⟨_,List.getElem?_eq_getElem hi⟩
      have hrow:=Ma.cuts_get ps ws i l hl
      generalize er:(ws.drop (ps.take i).sum).take l=row at hrow
      have hrl:row.length=l:=by
        have h1:=Me.cuts_lens ps ws ok.wl
        have h2:((Ma.cuts ps ws).map List.length)[i]?=some row.length:=by rw [List.getElem?_map,hrow];rfl
        rw [h1,hl] at h2
        exact (Option.some.inj h2).symm
      have hrm:row∈Ma.cuts ps ws:=List.mem_of_getElem? hrow
      have u5:(upd H4 t (.tup [.ref br,.ref wq,.ref td])) t=_:=upd_same
      have t5:=same_upd (o:=.tup [.ref br,.ref wq,.ref td]) htn
      refine ⟨t,_,rfl,SqT.of upd_same,rfl,_,_,rfl,_,_,rfl,_,_,rfl,rfl,?_⟩
      have kp5:∀ y ob,H3 y=some ob→y≠sl→(upd H4 t (.tup [.ref br,.ref wq,.ref td])) y=some ob:=fun y ob e n=>t5 _ _ (kp y ob e n)
      have sl5:=t5 _ _ hsl4
      have PR5:=PR.1.keep t5
      generalize upd H4 t (.tup [.ref br,.ref wq,.ref td])=H5 at u5 t5 kp5 sl5 PR5⊢
      have U2:Same H2 H5:=fun y ob e=>kp5 _ _ (s3 _ _ e) (ne_of_none e hsl)
      have U1:Same H1 H5:=fun y ob e=>kp5 _ _ (S13 _ _ e) (ne_of_none e (s2.free hsl))
      have U0:Same H H5:=fun y ob e=>kp5 _ _ (S3 _ _ e) (ne_of_none e hslH)
      have G5:=G.keep U0
      obtain ⟨_,rs,hrs,hrsl,_,RD⟩:=BA i l br hl hbr
      have hwq2:H2 wq=some (.lst (row.map V.int)):=by
        obtain ⟨row',hr',e'⟩:=paired_at rows hwq
        rw [hrow] at hr'
        cases hr'
        exact e'
      obtain ⟨ts,ht1,ht2,ht3⟩:=TA i row td hrow htd'
      have hrs0:0<rs.length:=by
        rw [hrsl]
        have:=SO.e1
        unfold Mu.pn
        split
        · decide
        · split <;> lia
      refine ⟨_,rfl,.inl ⟨rfl,_,SqL.of sl5⟩,_,rfl,_,rfl,_,rfl,b,br,wq,td,rs,ts,row,Mu.pq b x.1 x.2.1 (ps.take i).sum l,Mu.pj x.2.1 (ps.take i).sum l,rfl,U1 _ _ hrs,U2 _ _ hwq2,U0 _ _ ht1,ht2,ht3.keep U0,ok.b2,ok.b16,fun y hy=>ok.wr y (Ma.cuts_mem hrm y hy),Ma.cuts_short (fun p hp=>(ok.pr p hp).2) hrm,by rw [hrl];exact Mu.pj_le,RD.keep U1,hrs0,fun dp g6 H6 hdp s6 h6 R6=>?_⟩
      rw [hrl,hrsl] at R6
      have ndp:dp≠sl:=fun z=>by rw [z,sl5] at hdp;cases hdp
      have gl:gs.length=i:=by rw [← Paired.length PR5];exact hdl
      refine ⟨sl,_,_,rfl,rfl,s6 _ _ sl5,szl (by rw [List.length_map];lia),ds++[dp],gs++[g6],some (.ref br),some (.ref wq),some (.ref td),rfl,fun y ob e n=>?_,by rw [upd_same,List.map_append];rfl,by simp [hdl],?_,fun m l' row' d' a1 a2 a3=>?_⟩
      · rw [upd_ne n]
        exact s6 _ _ (kp5 y ob e n)
      · refine Paired.snoc (L2.Paired.mapP PR5 fun q g e=>?_) (by rw [upd_ne ndp];exact h6)
        rw [upd_ne (fun z=>by rw [z,sl5] at e;cases e)]
        exact s6 _ _ e
      · by_cases hm:m<gs.length
        · rw [List.getElem?_append_left hm] at a3
          exact PR.2 m l' row' d' a1 a2 a3
        · have hm':m=i:=by
            have:=(List.getElem?_eq_some_iff.mp a3).1
            simp at this
            lia
          subst hm'
          rw [List.getElem?_append_right (by lia),gl,Nat.sub_self] at a3
          have e1:g6=d':=by simpa using a3
          subst e1
          rw [hl] at a1
          cases a1
          rw [hrow] at a2
          cases a2
          exact R6
    · rintro σ H4 ⟨ds,gs,v7,v8,v9,rfl,kp,hsl4,hdl,PR⟩
      have U0:Same H H4:=fun y ob e=>kp _ _ (S3 _ _ e) (ne_of_none e hslH)
      have hdl':ds.length=ps.length:=by rw [hdl,List.length_map,hbl]
      have gl:gs.length=ps.length:=by rw [← Paired.length PR.1];exact hdl'
      have dok:∀ g∈gs,Me.DOk g:=fun g hg=>by
        obtain ⟨i,hi⟩:=List.getElem?_of_mem hg
        have hi':i<ps.length:=by have:=(List.getElem?_eq_some_iff.mp hi).1;lia
        exact (PR.2 i ps[i] _ g (List.getElem?_eq_getElem hi') (Ma.cuts_get ps ws i _ (List.getElem?_eq_getElem hi')) hi).ok
      refine ⟨_,rfl,_,rfl,sl,ds,gs,d,rfl,hsl4,PR.1,by lia,by lia,dok,fun H' s'=>?_⟩
      rw [Mx.near_stretch (by have:=ok.b2;lia) (by lia) SO ok.wl gl PR.2 dok]
      exact k H' (U0.trans s')
end
end Hv
namespace Hv
open PySem L2
noncomputable def spNeedMiss:Sp:=fun vs H Q _=>∃ d:Nat,vs=[.int d]∧Q .non H
noncomputable def spCountBelow:Sp:=fun vs H Q _=>∃ f A c b ps ws,∃ (tl:Addr) (tds:List Addr) (d n:Nat),vs=[.ref f,.ref tl,.int d,.int n]∧FrAt H f A c b ps ws∧H tl=some (.lst (tds.map V.ref))∧tds.length=ps.length∧TailsCA H b ps ws tds∧n≤b ^ ps.sum∧
  ∀ H':Hp,Same H H'→Q (.int (Mx.nrN b d ps ws n)) H'
section
variable {P:Program} {w:World} {K:PySem.W.Frag} {mg:Str→Option Value} {base:Heap}
theorem scNeedMiss:FnScope ["thing"] ["thing"] (defScope sNeedMiss):=⟨rfl,rfl,rfl,by decide +kernel,rfl,by decide +kernel,by decide +kernel⟩
theorem ok_needmiss {f:Addr} {fd:FuncData} (F:Fun K "need_miss" "need_miss" sNeedMiss f fd) (D1:Def P w K mg base 1 "is_whole" ["thing"] spWhole):FnOk P w K mg base CX0 2 f fd ["thing"] spNeedMiss:=by
  refine F.ok scNeedMiss (fun vs H Q E h=>?_) (fun cdv A outer s H vs Q E hr h=>?_)
  · obtain ⟨d,rfl,_⟩:=h;rfl
  · obtain ⟨d,rfl,k⟩:=h
    refine ⟨_,pss_one (ps_if (PW.pt (pw_or (pt_not (pt_val (pe_fn D1 hr (by rfl) (pa_cons (pv 0) pa_nil)))) (pw_or1 (pt_cmpR op_lt (pv 0) pe_int (nomark _))))) pss_never pss_nil),?_⟩
    refine ⟨_,rfl,.int d,rfl,.int _,_,rfl,iteF ⟨_,rfl,_,_,rfl,rfl,_,rfl,?_⟩⟩
    have e:decide ((d:Int)<0)=false:=decide_eq_false (by lia)
    rw [e]
    exact iteF k
theorem scCountBelow:FnScope ["frame","tails_by_part","d","n"] ["frame","tails_by_part","d","n"] (defScope sCountBelow):=⟨rfl,rfl,rfl,by decide +kernel,rfl,by decide +kernel,by decide +kernel⟩
theorem ok_countbelow {f:Addr} {fd:FuncData} (F:Fun K "count_below" "count_below" sCountBelow f fd) (T:Txt mg) (DS:Def P w K mg base 9 "stretches_below" ["frame","n"] spStretches) (DW:Def P w K mg base 3 "count_begun" ["frame","tails_by_part","d","head","end"] spCountBegun):FnOk P w K mg base CX0 10 f fd ["frame","tails_by_part","d","n"] spCountBelow:=by
  refine F.ok scCountBelow (fun vs H Q E h=>?_) (fun cdv A outer s H vs Q E hr h=>?_)
  · obtain ⟨g,A,c,b,ps,ws,tl,tds,d,n,rfl,_⟩:=h;rfl
  · obtain ⟨g,A',c,b,ps,ws,tl,tds,d,n,rfl,G,htl,tdl,TA,hn,k⟩:=h
    have nd:=scCountBelow.nd
    have ok:=G.ok
    have nd2:List.Nodup (["head","end","frame","tails_by_part","d"]:List Str):=by decide +kernel
    refine ⟨_,pss_one (ps_ret (pe_callB (call_sumA rfl) (by rfl) T.sum boot_sum (pa_cons (pe_comp (N:=["head","end","frame","tails_by_part","d"]) (k:=2) (fr:=[0,1,2]) (cmpS (sc:=defScope sCountBelow) (NX:=["frame","tails_by_part","d","n"]) (k:=2) (fr:=[0,1,2]) rfl rfl (by decide +kernel))
        (cmpF (sc:=defScope sCountBelow) (NX:=["frame","tails_by_part","d","n"]) rfl (by decide +kernel)) rfl (pi_list (pe_fn DS hr (by rfl) (pa_cons (pv 0) (pa_cons (pv 3) pa_nil))))
        (fun cl C s H fp=>pg_tupK K rfl rfl (pgs_cons (pg_name (i:=0) nd2 rfl (Or.inl rfl)) (pgs_cons (pg_name (i:=1) nd2 rfl (Or.inl rfl)) pgs_nil))) gk_two (fun cl C s H fp=>pf_nil)
        (fun cl C s H fp=>pe_fn DW (hr.mono (by decide)) (by rfl) (pa_cons (pv 2) (pa_cons (pv 3) (pa_cons (pv 4) (pa_cons (pv 0) (pa_cons (pv 1) pa_nil))))))) pa_nil))),?_⟩
    refine ⟨_,rfl,_,rfl,g,A',c,b,ps,ws,n,rfl,G,hn,fun p ts L H6 hp s6 hp6 PR hL SO hg=>⟨p,rfl,⟨_,SqL.of hp6⟩,comp_list (K:=K) (a:=p) (xs:=ts.map V.ref) (fun i ys H7=>ys=((L.take i).map (Mx.nrS b d ps ws)).map V.int∧Same H6 H7)
        ⟨by simp,Same.refl _⟩ (fun i ys H7 _ q=>SqL.of (q.2 _ _ hp6)) ?_ ?_⟩⟩
    · rintro i x ys H7 hx ⟨rfl,s7⟩
      obtain ⟨t,ht,rfl⟩:=ref_at hx
      obtain ⟨x',hx',hh,h1,h2⟩:=paired_at PR ht
      have S7:=s6.trans s7
      refine ⟨szl (by rw [List.length_map,List.length_map,List.length_take];lia),t,_,rfl,SqT.of (s7 _ _ h1),rfl,_,_,rfl,_,_,rfl,rfl,_,rfl,_,rfl,_,rfl,_,rfl,_,rfl,g,A',c,b,ps,ws,tl,hh,tds,x',d,rfl,G.keep S7,S7 _ _ htl,tdl,TA.keep S7,s7 _ _ h2,SO x' (List.mem_of_getElem? hx'),fun H8 s8=>?_⟩
      refine ⟨?_,s7.trans s8⟩
      rw [List.take_add_one,hx']
      simp
    · rintro ys H7 ⟨rfl,s7⟩ wl hwl
      have el:(ts.map V.ref).length=L.length:=by rw [List.length_map,Paired.length PR]
      rw [el,List.take_length]
      refine ⟨wl,_,rfl,SqL.of upd_same,?_⟩
      rw [Mx.nrS_sum hg]
      exact k _ (s6.trans (s7.trans (same_upd hwl)))
end
end Hv
namespace Mx
open Me Mg Mu
theorem nrI_01 (b d:Nat) (ps:List Nat) (ws:List Int) (m:Nat):nrI b d ps ws m=0∨nrI b d ps ws m=1:=by
  unfold nrI
  split
  · exact .inr rfl
  · exact .inl rfl
theorem nrN_succ (b d:Nat) (ps:List Nat) (ws:List Int) (n:Nat):nrN b d ps ws (n+1)=nrN b d ps ws n+nrI b d ps ws n:=rfl
theorem nrN_mono (b d:Nat) (ps:List Nat) (ws:List Int) (n:Nat):∀ m,nrN b d ps ws n≤nrN b d ps ws (n+m)
  | 0=>Int.le_refl _
  | m+1=>by
    have:=nrN_mono b d ps ws n m
    rw [← Nat.add_assoc,nrN_succ]
    rcases nrI_01 b d ps ws (n+m) with h | h <;> lia
theorem nrS_ends (b d:Nat) (ps:List Nat) (ws:List Int) (a pl e:Nat):nrN b d ps ws (a*b ^ (ps.sum - pl)+e*b ^ (ps.sum - pl - 1))=nrN b d ps ws (a*b ^ (ps.sum - pl))+nrS b d ps ws (a,pl,e):=by
  unfold nrN nrS
  rw [ns_add]
theorem nrS_zero (b d:Nat) (ps:List Nat) (ws:List Int) (a pl:Nat):nrS b d ps ws (a,pl,0)=0:=by
  have:=nrS_ends b d ps ws a pl 0
  rw [Nat.zero_mul,Nat.add_zero] at this
  lia
theorem pw_step {b S i:Nat} (hi:i<S):b ^ (S - i)=b*b ^ (S - i - 1):=by
  rw [show S - i=(S - i - 1)+1 by lia,Nat.pow_succ,Nat.mul_comm]
  rfl
theorem at_step {b d S a i fg r r' k:Nat} {ps:List Nat} {ws:List Int} (hS:ps.sum=S) (hi:i<S) (h1:nrN b d ps ws (a*b ^ (S - i))+r=k) (h3:nrS b d ps ws (a,i,fg)+r'=r) (h4:(r:Int)<nrS b d ps ws (a,i,fg+1)) :
    nrN b d ps ws ((a*b+fg)*b ^ (S - (i+1)))+r'=k∧(k:Int)<nrN b d ps ws ((a*b+fg)*b ^ (S - (i+1))+b ^ (S - (i+1))):=by
  subst hS
  have e1:(a*b+fg)*b ^ (ps.sum - (i+1))=a*b ^ (ps.sum - i)+fg*b ^ (ps.sum - i - 1):=by
    rw [pw_step hi,Nat.add_mul,Nat.mul_assoc]
    rfl
  have e2:(a*b+fg)*b ^ (ps.sum - (i+1))+b ^ (ps.sum - (i+1))=a*b ^ (ps.sum - i)+(fg+1)*b ^ (ps.sum - i - 1):=by
    rw [e1,Nat.add_mul fg 1,Nat.one_mul,Nat.add_assoc]
    rfl
  rw [e2,e1,nrS_ends,nrS_ends]
  lia
theorem at_head {b d S a i r k:Nat} {ps:List Nat} {ws:List Int} (hS:ps.sum=S) (hi:i<S) (h1:nrN b d ps ws (a*b ^ (S - i))+r=k) (h2:(k:Int)<nrN b d ps ws (a*b ^ (S - i)+b ^ (S - i))):(r:Int)<nrS b d ps ws (a,i,b):=by
  subst hS
  have:=nrS_ends b d ps ws a i b
  rw [← pw_step hi] at this
  lia
end Mx
namespace Hv
open PySem L2
noncomputable def spFigRest:Sp:=fun vs H Q _=>∃ f A c b ps ws,∃ (tl hd:Addr) (tds:List Addr) (a pl d k:Nat),vs=[.ref f,.ref tl,.int d,.ref hd,.int k]∧FrAt H f A c b ps ws∧H tl=some (.lst (tds.map V.ref))∧tds.length=ps.length∧TailsCA H b ps ws tds∧H hd=some (.lst (natV (Ma.dws b a pl pl)))∧pl<ps.sum∧a<b ^ pl∧
  (k:Int)<Mx.nrS b d ps ws (a,pl,b)∧
  ∀ (t:Addr) (fg r:Nat) (H':Hp),Same H H'→H' t=some (.tup [.int fg,.int r])→fg<b→Mx.nrS b d ps ws (a,pl,fg)+r=k→(k:Int)<Mx.nrS b d ps ws (a,pl,fg+1)→Q (.ref t) H'
noncomputable def spNumberAt:Sp:=fun vs H Q _=>∃ f A c b ps ws,∃ (tl:Addr) (tds:List Addr) (d k:Nat),vs=[.ref f,.ref tl,.int d,.int k]∧FrAt H f A c b ps ws∧H tl=some (.lst (tds.map V.ref))∧tds.length=ps.length∧TailsCA H b ps ws tds∧
  (∀ H':Hp,Same H H'→Mx.nrN b d ps ws (b ^ ps.sum)≤k→Q .non H')∧∀ (m:Nat) (H':Hp),Same H H'→m<b ^ ps.sum→Mx.nrI b d ps ws m=1→Mx.nrN b d ps ws m=k→Q (.int m) H'
section
variable {P:Program} {w:World} {K:PySem.W.Frag} {mg:Str→Option Value} {base:Heap}
theorem scFigRest:FnScope ["frame","tails_by_part","d","head","k","figure","passed","beyond","middle","count"] ["frame","tails_by_part","d","head","k"] (defScope sFigureAndRest):=⟨rfl,rfl,rfl,by decide +kernel,rfl,by decide +kernel,by decide +kernel⟩
theorem ok_figrest {f:Addr} {fd:FuncData} (F:Fun K "figure_and_rest" "figure_and_rest" sFigureAndRest f fd) (DB:Def P w K mg base 3 "count_begun" ["frame","tails_by_part","d","head","end"] spCountBegun):FnOk P w K mg base CX0 4 f fd ["frame","tails_by_part","d","head","k"] spFigRest:=by
  refine F.ok scFigRest (fun vs H Q E h=>?_) (fun cdv A outer s H vs Q E hr h=>?_)
  · obtain ⟨g,A,c,b,ps,ws,tl,hd,tds,a,pl,d,k,rfl,_⟩:=h;rfl
  · obtain ⟨g,A',c,b,ps,ws,tl,hd,tds,a,pl,d,n,rfl,G,htl,tdl,TA,hhd,hpl,ha,hn,k⟩:=h
    have nd:=scFigRest.nd
    have ok:=G.ok
    have b2:=ok.b2
    refine ⟨_,pss_cons (ps_set (i:=5) nd rfl (Or.inl rfl) pe_int)
      (pss_cons (ps_set (i:=6) nd rfl (Or.inl rfl) pe_int)
      (pss_cons (ps_set (i:=7) nd rfl (Or.inl rfl) (ixt (pv 0) pe_int))
      (pss_cons (ps_while PassesOwn.never (pt_cmpR op_gt (pe_op op_sub (pv 7) (pv 5)) pe_int (nomark _))
        (pss_cons (ps_set (i:=8) nd rfl (Or.inl rfl) (pe_op op_fdiv (pe_op op_add (pv 5) (pv 7)) pe_int))
        (pss_cons (ps_set (i:=9) nd rfl (Or.inl rfl) (pe_fn DB hr (by rfl) (pa_cons (pv 0) (pa_cons (pv 1) (pa_cons (pv 2) (pa_cons (pv 3) (pa_cons (pv 8) pa_nil)))))))
        (pss_one (ps_if (pt_cmpR op_le (pv 9) (pv 4) (nomark _))
          (pss_cons (ps_set (i:=5) nd rfl (Or.inl rfl) (pv 8)) (pss_one (ps_set (i:=6) nd rfl (Or.inl rfl) (pv 9))))
          (pss_one (ps_set (i:=7) nd rfl (Or.inl rfl) (pv 8))))))))
      (pss_one (ps_ret (pe_tup (pa_cons (pv 5) (pa_cons (pe_op op_sub (pv 4) (pv 6)) pa_nil)))))))),?_⟩
    have e0:=Mx.nrS_zero b d ps ws a pl
    refine ⟨_,rfl,_,_,_,_,rfl,rfl,SqT.of G.tp,rfl,?_⟩
    refine ⟨fun mu σ H'=>∃ (fg be:Nat) (v8 v9:Option V),σ=[some (.ref g),some (.ref tl),some (.int d),some (.ref hd),some (.int n),some (.int fg),some (.int (Mx.nrS b d ps ws (a,pl,fg))),some (.int be),v8,v9]∧mu=be - fg∧fg<be∧be≤b∧Same H H'∧Mx.nrS b d ps ws (a,pl,fg)≤n∧(n:Int)<Mx.nrS b d ps ws (a,pl,be),
      ⟨_,0,b,none,none,by rw [e0];rfl,rfl,by lia,Nat.le_refl _,Same.refl _,by rw [e0];lia,hn⟩,?_⟩
    rintro mu σ H1 ⟨fg,be,v8,v9,rfl,rfl,hfb,hbe,s1,c1,c2⟩
    refine ⟨_,rfl,_,rfl,_,_,rfl,rfl,_,_,rfl,rfl,_,rfl,ite2 (fun hlt=>?_) (fun hge=>?_)⟩
    · have hlt':(1:Int)<(be:Int) - fg:=of_decide_eq_true hlt
      refine ⟨fun σ' H'=>∃ (fg' be':Nat) (v8 v9:Option V),σ'=[some (.ref g),some (.ref tl),some (.int d),some (.ref hd),some (.int n),some (.int fg'),some (.int (Mx.nrS b d ps ws (a,pl,fg'))),some (.int be'),v8,v9]∧be' - fg'<be - fg∧fg'<be'∧be'≤b∧Same H H'∧Mx.nrS b d ps ws (a,pl,fg')≤n∧(n:Int)<Mx.nrS b d ps ws (a,pl,be'),
        fun σ' H' ⟨fg',be',v8,v9,h1,h2,h3,h4,h5,h6,h7⟩=>⟨be' - fg',h2,fg',be',v8,v9,h1,rfl,h3,h4,h5,h6,h7⟩,?_⟩
      have em:((fg:Int)+(be:Int)) / 2=(((fg+be) / 2:Nat):Int):=by lia
      refine ⟨_,rfl,_,rfl,_,_,rfl,rfl,_,_,rfl,rfl,⟨by decide,by decide⟩,?_⟩
      dsimp only
      rw [em]
      generalize hmd:(fg+be) / 2=md
      have hm1:fg<md:=by lia
      have hm2:md<be:=by lia
      refine ⟨_,rfl,_,rfl,_,rfl,_,rfl,_,rfl,g,A',c,b,ps,ws,tl,hd,tds,(a,pl,md),d,rfl,G.keep s1,s1 _ _ htl,tdl,TA.keep s1,s1 _ _ hhd,⟨hpl,by show 1≤md;lia,by show md≤b;lia,ha⟩,fun H2 s2=>?_⟩
      refine ⟨_,rfl,_,rfl,_,_,rfl,rfl,_,rfl,ite2 (fun hle=>?_) (fun hgt=>?_)⟩
      · have hle':Mx.nrS b d ps ws (a,pl,md)≤(n:Int):=of_decide_eq_true hle
        exact ⟨_,rfl,_,rfl,md,be,_,_,rfl,by lia,hm2,hbe,s1.trans s2,hle',c2⟩
      · have hgt':¬ Mx.nrS b d ps ws (a,pl,md)≤(n:Int):=fun z=>hgt (decide_eq_true z)
        exact ⟨_,rfl,fg,md,_,_,rfl,by lia,hm1,by lia,s1.trans s2,c1,by lia⟩
    · have hge':¬ (1:Int)<(be:Int) - fg:=fun z=>hge (decide_eq_true z)
      have ebe:be=fg+1:=by lia
      subst ebe
      obtain ⟨r,hr'⟩:∃ r:Nat,(n:Int) - Mx.nrS b d ps ws (a,pl,fg)=(r:Int):=⟨((n:Int) - Mx.nrS b d ps ws (a,pl,fg)).toNat,by lia⟩
      refine ⟨_,rfl,_,rfl,_,rfl,_,_,rfl,rfl,sz (by simp),fun t ht=>?_⟩
      dsimp only
      rw [hr']
      exact k t fg r _ (s1.trans (same_upd ht)) upd_same (by lia) (by lia) c2
theorem scNumberAt:FnScope ["frame","tails_by_part","d","k","head","rest","place","found"] ["frame","tails_by_part","d","k"] (defScope sNumberAt):=⟨rfl,rfl,rfl,by decide +kernel,rfl,by decide +kernel,by decide +kernel⟩
theorem ok_numberat {f:Addr} {fd:FuncData} (F:Fun K "number_at" "number_at" sNumberAt f fd) (T:Txt mg) (D6:Def P w K mg base 6 "how_many" ["frame"] spHowMany) (DB:Def P w K mg base 10 "count_below" ["frame","tails_by_part","d","n"] spCountBelow) (DF:Def P w K mg base 4 "figure_and_rest" ["frame","tails_by_part","d","head","k"] spFigRest)
    (DN:Def P w K mg base 1 "number_of" ["base","figures"] spNumberOf):FnOk P w K mg base CX0 11 f fd ["frame","tails_by_part","d","k"] spNumberAt:=by
  refine F.ok scNumberAt (fun vs H Q E h=>?_) (fun cdv A outer s H vs Q E hr h=>?_)
  · obtain ⟨g,A,c,b,ps,ws,tl,tds,d,k,rfl,_⟩:=h;rfl
  · obtain ⟨g,A',c,b,ps,ws,tl,tds,d,n,rfl,G,htl,tdl,TA,k1,k2⟩:=h
    have nd:=scNumberAt.nd
    have ok:=G.ok
    have b2:=ok.b2
    have hsum:=ok.sum
    have b0:0<b:=by lia
    refine ⟨_,pss_cons (ps_if (pt_cmpR op_ge (pv 3) (pe_fn DB hr (by rfl) (pa_cons (pv 0) (pa_cons (pv 1) (pa_cons (pv 2) (pa_cons (pe_fn D6 (hr.mono (by decide)) (by rfl) (pa_cons (pv 0) pa_nil)) pa_nil))))) (nomark _)) (pss_one (ps_ret pe_non)) pss_nil)
      (pss_cons (ps_set (i:=4) nd rfl (Or.inl rfl) (pe_lst pa_nil))
      (pss_cons (ps_set (i:=5) nd rfl (Or.inl rfl) (pv 3))
      (pss_cons (ps_for PassesOwn.never rfl (pi_range1 (by rfl) T.range (pa_cons (lenS T.len (by rfl) (ixt (pv 0) pe_int)) pa_nil)) (pg_name (i:=6) nd rfl (Or.inl rfl))
        (pss_cons (ps_set (i:=7) nd rfl (Or.inl rfl) (pe_fn DF (hr.mono (by decide)) (by rfl) (pa_cons (pv 0) (pa_cons (pv 1) (pa_cons (pv 2) (pa_cons (pv 4) (pa_cons (pv 5) pa_nil)))))))
        (pss_cons (ps_set (i:=4) nd rfl (Or.inl rfl) (pe_op op_cat (pv 4) (pe_lst (pa_cons (ixt (pv 7) pe_int) pa_nil))))
        (pss_one (ps_set (i:=5) nd rfl (Or.inl rfl) (ixt (pv 7) pe_int))))))
      (pss_one (ps_ret (pe_fn DN (hr.mono (by decide)) (by rfl) (pa_cons (ixt (pv 0) pe_int) (pa_cons (pv 4) pa_nil)))))))),?_⟩
    refine ⟨_,rfl,_,rfl,_,rfl,_,rfl,_,rfl,g,A',c,b,ps,ws,rfl,G,fun H1 s1=>?_⟩
    refine ⟨g,A',c,b,ps,ws,tl,tds,d,b ^ ps.sum,rfl,G.keep s1,s1 _ _ htl,tdl,TA.keep s1,Nat.le_refl _,fun H2 s2=>?_⟩
    have S2:=s1.trans s2
    refine ⟨_,_,rfl,rfl,_,rfl,ite2 (fun hle=>?_) (fun hgt=>?_)⟩
    · exact k1 H2 S2 (of_decide_eq_true hle)
    have hgt':¬ Mx.nrN b d ps ws (b ^ ps.sum)≤(n:Int):=fun z=>hgt (decide_eq_true z)
    refine ⟨sz (by decide),fun h0 hh0=>?_⟩
    have s3:=same_upd (o:=.lst []) hh0
    have u3:(upd H2 h0 (.lst [])) h0=some (.lst (natV (Ma.dws b 0 0 0))):=upd_same
    have S3:=S2.trans s3
    generalize upd H2 h0 (.lst [])=H3 at s3 u3 S3⊢
    have G3:=G.keep S3
    have hwl:=ok.wl
    refine ⟨_,rfl,_,rfl,_,_,_,_,rfl,rfl,SqT.of G3.tp,rfl,c,_,rfl,.inl (SqL.of G3.hw),_,rfl,by rw [List.length_map];lia,by rw [List.length_map];lia,for_range (n:=(((ws.map V.int).length:Nat):Int).toNat) (fun i σ H4=>∃ (h:Addr) (a r:Nat) (v6 v7:Option V),σ=[some (.ref g),some (.ref tl),some (.int d),some (.int n),some (.ref h),some (.int r),v6,v7]∧Same H H4∧H4 h=some (.lst (natV (Ma.dws b a i i)))∧a<b ^ i∧Mx.nrN b d ps ws (a*b ^ (ps.sum - i))+r=n∧(n:Int)<Mx.nrN b d ps ws (a*b ^ (ps.sum - i)+b ^ (ps.sum - i)))
      ⟨h0,0,n,none,none,rfl,S3,u3,by simp,by rw [Nat.zero_mul];show (0:Int)+n=n;lia,by rw [Nat.zero_mul,Nat.zero_add,Nat.sub_zero];lia⟩ ?_ ?_⟩
    · rintro i σ H4 hi ⟨h,a,r,v6,v7,rfl,s4,hh,ha,e1,e2⟩
      have hi':i<ps.sum:=by rw [List.length_map,hwl] at hi;lia
      refine ⟨_,rfl,_,rfl,_,rfl,_,rfl,_,rfl,g,A',c,b,ps,ws,tl,h,tds,a,i,d,r,rfl,G.keep s4,s4 _ _ htl,tdl,TA.keep s4,hh,hi',ha,Mx.at_head rfl hi' e1 e2,fun t fg r' H5 s5 ht hfg h3 h4=>?_⟩
      refine ⟨_,rfl,_,rfl,_,_,_,_,rfl,rfl,SqT.of ht,rfl,sz (by simp),fun q hq=>?_⟩
      have s6:=same_upd (o:=.lst [V.int (fg:Int)]) hq
      have u6:(upd H5 q (.lst [V.int (fg:Int)])) q=_:=upd_same
      generalize upd H5 q (.lst [V.int (fg:Int)])=H6 at s6 u6⊢
      refine ⟨h,q,_,_,rfl,rfl,s6 _ _ (s5 _ _ hh),u6,szl (by rw [natV,List.length_map,Ma.dws_len];lia),fun z hz=>?_⟩
      have s7:=same_upd (o:=.lst (natV (Ma.dws b a i i)++[V.int (fg:Int)])) hz
      refine ⟨_,rfl,_,_,_,_,rfl,rfl,SqT.of (s7 _ _ (s6 _ _ ht)),rfl,z,a*b+fg,r',_,_,rfl,s4.trans (s5.trans (s6.trans s7)),?_,?_,?_⟩
      · rw [upd_same,Mg.dws_up b a fg i hfg]
        simp [natV]
      · rw [Nat.pow_succ]
        have:(a+1)*b≤b ^ i*b:=Nat.mul_le_mul_right _ ha
        rw [Nat.add_mul,Nat.one_mul] at this
        lia
      · exact Mx.at_step rfl hi' e1 h3 h4
    · rintro σ H4 ⟨h,a,r,v6,v7,rfl,s4,hh,ha,e1,e2⟩
      have el:(((ws.map V.int).length:Nat):Int).toNat=ps.sum:=by rw [List.length_map,hwl];lia
      rw [el] at hh ha e1 e2
      rw [Nat.sub_self,Nat.pow_zero,Nat.mul_one] at e1 e2
      rw [Mx.nrN_succ] at e2
      have G4:=G.keep s4
      refine ⟨_,rfl,_,_,_,_,rfl,rfl,SqT.of G4.tp,rfl,_,rfl,b,h,_,rfl,ok.b16,hh,?_⟩
      rw [Ma.num_dws b0 ha]
      have:=Mx.nrI_01 b d ps ws a
      exact k2 a H4 s4 ha (by lia) (by lia)
end
end Hv
namespace Hv
open PySem L2
section
variable {P:Program} {w:World} {K:PySem.W.Frag} {mg:Str→Option Value} {base:Heap}
end
end Hv
namespace Hv
open PySem L2
section
variable {P:Program} {w:World} {K:PySem.W.Frag} {mg:Str→Option Value} {base:Heap}
end
end Hv
namespace Hv
open PySem L2
noncomputable def negs (ws:List Int):List Int:=ws.map fun x => -x
section
variable {P:Program} {w:World} {K:PySem.W.Frag} {mg:Str→Option Value} {base:Heap}
end
end Hv
namespace Hv
open PySem L2
noncomputable def spLaw (K:PySem.W.Frag):Sp:=fun vs H Q _=>∃ (a:Addr) (ns:List Int),vs=[.ref a]∧SqL K H a (ns.map V.int)∧ns.length≤63∧∀ H',Q (.bl true) H'
noncomputable def frD (b:Nat) (ps:List Nat) (ws:List Int):PyData:=.tuple [.int b,.list ((ps.map fun (p:Nat)=>(p:Int)).map PyData.int),.list (ws.map PyData.int)]
theorem frD_lay (b:Nat) (ps:List Nat) (ws:List Int):(frD b ps ws).canLay0=true:=by
  simp only [frD,PyData.canLay0,PyData.canLayAll0,lays,Bool.and_self]
theorem frD_depth (b:Nat) (ps:List Nat) (ws:List Int):(frD b ps ws).depth≤60:=by
  simp only [frD,PyData.depth,PyData.depthAll,depths]
  decide
theorem FrAt.dat {P:Program} {w:World} {H:Hp} {f a c:Addr} {b:Nat} {ps:List Nat} {ws:List Int} (G:FrAt H f a c b ps ws):DatV P w H (.ref f) (frD b ps ws) :=
  datT G.tp (.cons (datI _) (.cons (datL G.hp (by rw [natV_eq];exact datIs _)) (.cons (datL G.hw (datIs _)) .nil)))
end Hv
namespace Mx
open Me Mg Mu
theorem trG_rows {b:Nat}:∀ {gs:List (List (Int×Int))} {rows:List (List Int)},PySem.Paired (fun g row=>List.Perm g (waysW b row)) gs rows→∀ F:List Int→Int,trG gs F=tr b rows F
  | _,_,.nil,_=>rfl
  | _,_,.cons r t,F=>by
    show tg _ _=tg _ _
    rw [tg_perm r]
    exact tg_congr fun x=>trG_rows t _
theorem near_all {b:Nat} (hb:0<b) {ps:List Nat} {ws:List Int} (lp:0<ps.length) (hw:ws.length=ps.sum) {gs:List (List (Int×Int))} (h:PySem.Paired (fun g row=>List.Perm g (waysW b row)) gs (Ma.cuts ps ws)) (ok:∀ g∈gs,DOk g) (d:Nat):nearG gs d=nrN b d ps ws (b ^ ps.sum):=by
  have hl:gs.length=ps.length:=by rw [h.length,Ma.cuts_len]
  rw [near_trG (by lia) ok,trG_rows h,← all_tr hb ps ws _ hw]
  rfl
theorem even_all {b:Nat} (hb:0<b) {ps:List Nat} {ws:List Int} (lp:0<ps.length) (hw:ws.length=ps.sum) {row:List Int} (h0:(Ma.cuts ps ws)[0]?=some row):tot (evenL b (Ma.cuts ps ws) (keys (waysW b row)))=nrN b 0 ps ws (b ^ ps.sum):=by
  rw [← near_zero hb h0,← cnt_near hb hw lp]
  rfl
theorem ways_dok {b:Nat} (hb:1≤b) (hb2:b≤16) {row:List Int} (hw:∀ x∈row,-9≤x∧x≤9) (hl:row.length≤6) {g:List (Int×Int)} (h:g.Perm (waysW b row)):DOk g:=by
  have okW:=ways_ok' (b:=b) (ws:=row) hw hb2
  have hk:(keys g).Perm (keys (waysW b row)):=h.map _
  refine ⟨by rw [hk.length_eq];exact keys_ne hb row,hk.nodup_iff.mpr okW.nd,fun k hk'=>?_,fun t=>?_⟩
  · have:=okW.bd k (hk.mem_iff.mp hk')
    lia
  · have e:=look_perm h okW.nd t
    have:=ways_val hb2 hl (ws:=row) t
    unfold gv
    rw [e]
    exact this
end Mx
namespace Hv
open PySem L2
noncomputable def spNeedPlace:Sp:=fun vs H Q _=>∃ d:Nat,vs=[.int d]∧Q .non H
noncomputable def spNearBy:Sp:=fun vs H Q _=>∃ f A c b ps ws,∃ d k:Nat,vs=[.ref f,.int d,.int k]∧FrAt H f A c b ps ws∧(∀ H':Hp,Same H H'→Mx.nrN b d ps ws (b ^ ps.sum)≤k→Q .non H')∧∀ (m:Nat) (H':Hp),Same H H'→m<b ^ ps.sum→Mx.nrI b d ps ws m=1→Mx.nrN b d ps ws m=k→Q (.int m) H'
noncomputable def spEvenByK:Sp:=fun vs H Q _=>∃ f A c b ps ws,∃ k:Nat,vs=[.ref f,.int k]∧FrAt H f A c b ps ws∧(∀ H':Hp,Same H H'→Mx.nrN b 0 ps ws (b ^ ps.sum)≤k→Q .non H')∧∀ (m:Nat) (H':Hp),Same H H'→m<b ^ ps.sum→Mx.nrI b 0 ps ws m=1→Mx.nrN b 0 ps ws m=k→Q (.int m) H'
section
variable {P:Program} {w:World} {K:PySem.W.Frag} {mg:Str→Option Value} {base:Heap}
theorem scNeedPlace:FnScope ["thing"] ["thing"] (defScope sNeedPlace):=⟨rfl,rfl,rfl,by decide +kernel,rfl,by decide +kernel,by decide +kernel⟩
theorem ok_needplace {f:Addr} {fd:FuncData} (F:Fun K "need_place" "need_place" sNeedPlace f fd) (D1:Def P w K mg base 1 "is_whole" ["thing"] spWhole):FnOk P w K mg base CX0 2 f fd ["thing"] spNeedPlace:=by
  refine F.ok scNeedPlace (fun vs H Q E h=>?_) (fun cdv A outer s H vs Q E hr h=>?_)
  · obtain ⟨d,rfl,_⟩:=h;rfl
  · obtain ⟨d,rfl,k⟩:=h
    refine ⟨_,pss_one (ps_if (PW.pt (pw_or (pt_not (pt_val (pe_fn D1 hr (by rfl) (pa_cons (pv 0) pa_nil)))) (pw_or1 (pt_cmpR op_lt (pv 0) pe_int (nomark _))))) pss_never pss_nil),?_⟩
    refine ⟨_,rfl,.int d,rfl,.int _,_,rfl,iteF ⟨_,rfl,_,_,rfl,rfl,_,rfl,?_⟩⟩
    have e:decide ((d:Int)<0)=false:=decide_eq_false (by lia)
    rw [e]
    exact iteF k
theorem scNearBy:FnScope ["frame","d","k"] ["frame","d","k"] (defScope sNearBy):=⟨rfl,rfl,rfl,by decide +kernel,rfl,by decide +kernel,by decide +kernel⟩
theorem ok_nearby {f:Addr} {fd:FuncData} (F:Fun K "near_by" "near_by" sNearBy f fd) (D5:Def P w K mg base 5 "need_frame" ["thing"] spNeedFrame) (DM:Def P w K mg base 2 "need_miss" ["thing"] spNeedMiss) (D7:Def P w K mg base 2 "need_place" ["thing"] spNeedPlace)
    (DT:Def P w K mg base 4 "tails_of_parts" ["frame"] spTailsPs) (DA:Def P w K mg base 11 "number_at" ["frame","tails_by_part","d","k"] spNumberAt):FnOk P w K mg base CX0 12 f fd ["frame","d","k"] spNearBy:=by
  refine F.ok scNearBy (fun vs H Q E h=>?_) (fun cdv A outer s H vs Q E hr h=>?_)
  · obtain ⟨g,A,c,b,ps,ws,d,n,rfl,_⟩:=h;rfl
  · obtain ⟨g,A',c,b,ps,ws,d,n,rfl,G,k1,k2⟩:=h
    refine ⟨_,pss_cons (ps_expr (pe_fn D5 (hr.mono (by decide)) (by rfl) (pa_cons (pv 0) pa_nil)))
      (pss_cons (ps_expr (pe_fn DM (hr.mono (by decide)) (by rfl) (pa_cons (pv 1) pa_nil)))
      (pss_cons (ps_expr (pe_fn D7 (hr.mono (by decide)) (by rfl) (pa_cons (pv 2) pa_nil)))
      (pss_one (ps_ret (pe_fn DA hr (by rfl) (pa_cons (pv 0) (pa_cons (pe_fn DT (hr.mono (by decide)) (by rfl) (pa_cons (pv 0) pa_nil)) (pa_cons (pv 1) (pa_cons (pv 2) pa_nil))))))))),?_⟩
    refine ⟨_,rfl,g,A',c,b,ps,ws,rfl,G,fun H1 s1=>⟨_,rfl,d,rfl,?_⟩⟩
    refine ⟨_,rfl,n,rfl,?_⟩
    refine ⟨_,rfl,_,rfl,g,A',c,b,ps,ws,rfl,G.keep s1,fun p tds H3 hp s3 h3 tdl TA=>?_⟩
    have S3:=s1.trans s3
    exact ⟨_,rfl,_,rfl,g,A',c,b,ps,ws,p,tds,d,n,rfl,G.keep S3,h3,tdl,TA,fun H' s' h=>k1 H' (S3.trans s') h,fun m H' s' h1 h2 h3=>k2 m H' (S3.trans s') h1 h2 h3⟩
theorem scEvenByK:FnScope ["frame","k"] ["frame","k"] (defScope sEvenByK):=⟨rfl,rfl,rfl,by decide +kernel,rfl,by decide +kernel,by decide +kernel⟩
theorem ok_evenbyk {f:Addr} {fd:FuncData} (F:Fun K "even_by" "even_by" sEvenByK f fd) (DB:Def P w K mg base 12 "near_by" ["frame","d","k"] spNearBy):FnOk P w K mg base CX0 13 f fd ["frame","k"] spEvenByK:=by
  refine F.ok scEvenByK (fun vs H Q E h=>?_) (fun cdv A outer s H vs Q E hr h=>?_)
  · obtain ⟨g,A,c,b,ps,ws,n,rfl,_⟩:=h;rfl
  · obtain ⟨g,A',c,b,ps,ws,n,rfl,G,k⟩:=h
    refine ⟨_,pss_one (ps_ret (pe_fn DB hr (by rfl) (pa_cons (pv 0) (pa_cons pe_int (pa_cons (pv 1) pa_nil))))),?_⟩
    exact ⟨_,rfl,_,rfl,g,A',c,b,ps,ws,0,n,rfl,G,k⟩
end
end Hv
namespace Hv
open PySem L2
noncomputable def spCountNear:Sp:=fun vs H Q _=>∃ f a c b ps ws,∃ d:Nat,vs=[.ref f,.int d]∧FrAt H f a c b ps ws∧∀ H',Same H H'→Q (.int (Mx.nrN b d ps ws (b ^ ps.sum))) H'
noncomputable def spCountEven:Sp:=fun vs H Q _=>∃ f a c b ps ws,vs=[.ref f]∧FrAt H f a c b ps ws∧∀ H',Same H H'→Q (.int (Mx.nrN b 0 ps ws (b ^ ps.sum))) H'
theorem ways_split {H:Hp} {b:Nat}:∀ {qs:List Addr} {rows:List (List Int)},WaysAt H b qs rows→∃ gs:List (List (Int×Int)),WaysG H qs gs∧Paired (fun g row=>List.Perm g (Me.waysW b row)) gs rows
  | _,_,.nil=>⟨[],.nil,.nil⟩
  | _,_,.cons r t=>by
    obtain ⟨g,e,p⟩:=r
    obtain ⟨gs,h1,h2⟩:=ways_split t
    exact ⟨g::gs,.cons e h1,.cons p h2⟩
theorem paired_in {α β:Type} {F:α→β→Prop}:∀ {xs:List α} {ys:List β},Paired F xs ys→∀ x∈xs,∃ y,y∈ys∧F x y
  | _,_,.nil,_,h=>by simp at h
  | _,_,.cons r t,x,h=>by
    rcases List.mem_cons.mp h with rfl | h
    · exact ⟨_,by simp,r⟩
    · obtain ⟨y,hy,e⟩:=paired_in t x h
      exact ⟨y,by simp [hy],e⟩
section
variable {P:Program} {w:World} {K:PySem.W.Frag} {mg:Str→Option Value} {base:Heap}
theorem scCountNear:FnScope ["frame","d"] ["frame","d"] (defScope sCountNear):=⟨rfl,rfl,rfl,by decide +kernel,rfl,by decide +kernel,by decide +kernel⟩
theorem ok_countnear {f:Addr} {fd:FuncData} (F:Fun K "count_near" "count_near" sCountNear f fd) (D5:Def P w K mg base 5 "need_frame" ["thing"] spNeedFrame) (DM:Def P w K mg base 2 "need_miss" ["thing"] spNeedMiss) (DW:Def P w K mg base 3 "ways_of_parts" ["frame"] spWaysParts)
    (DS:Def P w K mg base 2 "count_spread_within" ["ways_by_part","width"] spSpread):FnOk P w K mg base CX0 6 f fd ["frame","d"] spCountNear:=by
  refine F.ok scCountNear (fun vs H Q E h=>?_) (fun cdv A outer s H vs Q E hr h=>?_)
  · obtain ⟨g,a,c,b,ps,ws,d,rfl,_⟩:=h;rfl
  · obtain ⟨g,a,c,b,ps,ws,d,rfl,G,k⟩:=h
    have ok:=G.ok
    have b0:0<b:=by have:=ok.b2;lia
    have l2:=ok.l2
    have l4:=ok.l4
    refine ⟨_,pss_cons (ps_expr (pe_fn D5 hr (by rfl) (pa_cons (pv 0) pa_nil)))
      (pss_cons (ps_expr (pe_fn DM (hr.mono (by decide)) (by rfl) (pa_cons (pv 1) pa_nil)))
      (pss_one (ps_ret (pe_fn DS (hr.mono (by decide)) (by rfl) (pa_cons (pe_fn DW (hr.mono (by decide)) (by rfl) (pa_cons (pv 0) pa_nil)) (pa_cons (pv 1) pa_nil)))))),?_⟩
    refine ⟨_,rfl,g,a,c,b,ps,ws,rfl,G,fun H1 s1=>⟨_,rfl,d,rfl,?_⟩⟩
    refine ⟨_,rfl,g,a,c,b,ps,ws,rfl,G.keep s1,fun p qs H2 s2 hp h2 wa=>?_⟩
    obtain ⟨gs,wg,pg⟩:=ways_split wa
    have gl:gs.length=ps.length:=by rw [pg.length,Ma.cuts_len]
    have dok:∀ g∈gs,Me.DOk g:=fun g hg=>by
      obtain ⟨row,hrow,perm⟩:=paired_in pg g hg
      exact Mx.ways_dok b0 ok.b16 (fun y hy=>ok.wr y (Ma.cuts_mem hrow y hy)) (Ma.cuts_short (fun p hp=>(ok.pr p hp).2) hrow) perm
    refine ⟨_,rfl,p,qs,gs,d,rfl,h2,wg,by lia,by lia,dok,fun H' s'=>?_⟩
    rw [Mx.near_all b0 (by lia) ok.wl pg dok]
    exact k H' (s1.trans (s2.trans s'))
theorem scCountEven:FnScope ["frame"] ["frame"] (defScope sCountEven):=⟨rfl,rfl,rfl,by decide +kernel,rfl,by decide +kernel,by decide +kernel⟩
theorem ok_counteven {f:Addr} {fd:FuncData} (F:Fun K "count_even" "count_even" sCountEven f fd) (T:Txt mg) (DE:Def P w K mg base 6 "even_by_sums" ["frame"] spEvenBy):FnOk P w K mg base CX0 7 f fd ["frame"] spCountEven:=by
  refine F.ok scCountEven (fun vs H Q E h=>?_) (fun cdv A outer s H vs Q E hr h=>?_)
  · obtain ⟨g,a,c,b,ps,ws,rfl,_⟩:=h;rfl
  · obtain ⟨g,a,c,b,ps,ws,rfl,G,k⟩:=h
    have ok:=G.ok
    have b0:0<b:=by have:=ok.b2;lia
    have l2:=ok.l2
    refine ⟨_,pss_one (ps_ret (pe_svals rfl T.sum (by rfl) (pe_fn DE hr (by rfl) (pa_cons (pv 0) pa_nil)))),?_⟩
    refine ⟨_,rfl,g,a,c,b,ps,ws,rfl,G,fun p g' H1 hp s1 hp1 ⟨row,hrow,perm⟩=>⟨p,_,g'.map (·.2),rfl,hp1,(by simp [intsD]),?_⟩⟩
    have e:=Me.tot_perm perm
    show Q (.int (Me.tot g')) H1
    rw [e,Mx.even_all b0 (by lia) ok.wl hrow]
    exact k H1 s1
end
end Hv
namespace Mx
open Me Mg Mu
noncomputable def Mk (e:Nat→Int):Prop:=∀ i,e i=0∨e i=1
end Mx
namespace Mx
open Me Mg Mu
theorem wts_ng (b n L:Nat) (ws:List Int):Ma.wts b n L (ngr ws)=ngr (Ma.wts b n L ws):=by
  unfold Ma.wts ngr
  rw [List.map_zipWith,List.zipWith_map_right]
  congr 1
  funext d x
  simp [Int.mul_neg]
theorem sum_ng (l:List Int):(ngr l).sum=0 - l.sum:=by
  unfold ngr
  induction l with
  | nil=>rfl
  | cons x l ih=>rw [List.map_cons,List.sum_cons,List.sum_cons,ih];lia
theorem psums_ng:∀ (ps:List Nat) (l:List Int),Ma.psums ps (ngr l)=ngr (Ma.psums ps l)
  | [],_=>rfl
  | p::ps,l=>by
    have e1:(ngr l).take p=ngr (l.take p):=by unfold ngr;rw [List.map_take]
    have e2:(ngr l).drop p=ngr (l.drop p):=by unfold ngr;rw [List.map_drop]
    show ((ngr l).take p).sum::Ma.psums ps ((ngr l).drop p)=(0 - (l.take p).sum)::ngr (Ma.psums ps (l.drop p))
    rw [e1,e2,sum_ng,psums_ng ps]
theorem sums_ng (b n:Nat) (ps:List Nat) (ws:List Int):sumsN b n ps (ngr ws)=ngr (sumsN b n ps ws):=by
  unfold sumsN
  rw [wts_ng,psums_ng]
theorem max_ng {l:List Int} (h:0<l.length):Ma.maxL (ngr l)=0 - Ma.minL l∧Ma.minL (ngr l)=0 - Ma.maxL l:=by
  have hl:0<(ngr l).length:=by unfold ngr;rw [List.length_map];exact h
  obtain ⟨a1,a2⟩:=Ma.maxL_spec _ hl
  obtain ⟨b1,b2⟩:=Ma.minL_spec _ hl
  obtain ⟨c1,c2⟩:=Ma.maxL_spec _ h
  obtain ⟨d1,d2⟩:=Ma.minL_spec _ h
  have up:∀ x∈l,0 - x∈ngr l:=fun x hx=>List.mem_map.mpr ⟨x,hx,rfl⟩
  obtain ⟨x,hx,ex⟩:=List.mem_map.mp a1
  obtain ⟨y,hy,ey⟩:=List.mem_map.mp b1
  have:=a2 _ (up _ d1)
  have:=d2 _ hx
  have:=b2 _ (up _ c1)
  have:=c2 _ hy
  constructor <;> lia
theorem sprd_ng {l:List Int} (h:0<l.length):sprd (ngr l)=sprd l:=by
  have:=max_ng h
  unfold sprd
  lia
end Mx
namespace Ma
end Ma
namespace Mx
open Me Mg Mu
variable {b d e:Nat} {ps:List Nat} {ws:List Int} {m n:Nat}
theorem nrN_le (h:m≤n):nrN b d ps ws m≤nrN b d ps ws n:=by
  have:=nrN_mono b d ps ws m (n - m)
  rw [show m+(n - m)=n by lia] at this
  exact this
theorem nr_uniq (h1:nrI b d ps ws m=1) (h2:nrI b d ps ws n=1) (h:nrN b d ps ws m=nrN b d ps ws n):m=n:=by
  have e1:=nrN_succ b d ps ws m
  have e2:=nrN_succ b d ps ws n
  rcases Nat.lt_trichotomy m n with z | z | z
  · have:=nrN_le (b:=b) (d:=d) (ps:=ps) (ws:=ws) (show m+1≤n by lia)
    lia
  · exact z
  · have:=nrN_le (b:=b) (d:=d) (ps:=ps) (ws:=ws) (show n+1≤m by lia)
    lia
end Mx
namespace Hv
open PySem L2
end Hv
namespace Mx
open Me Mg Mu
variable {b d e:Nat} {ps:List Nat} {ws:List Int} {m n:Nat}
theorem nrI_negs (lp:0<ps.length) (n:Nat):nrI b d ps (Hv.negs ws) n=nrI b d ps ws n:=by
  have e:Hv.negs ws=ngr ws:=by
    unfold Hv.negs ngr
    exact List.map_congr_left fun x _=>by lia
  unfold nrI
  have hl:(sumsN b n ps ws).length=ps.length:=Ma.psums_len _ _
  rw [e,sums_ng,sprd_ng (by lia)]
theorem nrN_negs (lp:0<ps.length) (n:Nat):nrN b d ps (Hv.negs ws) n=nrN b d ps ws n:=ns_congr fun i _=>nrI_negs lp i
end Mx
namespace Hv
open PySem L2
theorem FrAt.kps {H H':Hp} {f a c st:Addr} {b:Nat} {ps:List Nat} {ws:List Int} (G:FrAt H f a c b ps ws) (S:Store H st) (ha:a≠st) (hc:c≠st) (k:Kp [st] H H'):FrAt H' f a c b ps ws:=by
  refine ⟨k _ _ G.tp (fun z=>?_),k _ _ G.hp (by simpa using ha),k _ _ G.hw (by simpa using hc),G.ok⟩
  have z':f=st:=by simpa using z
  obtain ⟨x,y,w,e⟩:=S
  have:=G.tp
  rw [z',e] at this
  cases this
end Hv
namespace Hv
open PySem L2
theorem ne_int_self {i j:Int} (h:i=j):(!decide (V.int i=V.int j))=false:=by rw [h];simp
section
variable {H:Hp} {Q:VK} {E:XK} {f a c:Addr} {b d n k:Nat} {ps:List Nat} {ws:List Int}
noncomputable def ByV (b d:Nat) (ps:List Nat) (ws:List Int) (k:Nat) (v:V):Prop:=(v=.non∧Mx.nrN b d ps ws (b ^ ps.sum)≤k)∨∃ m:Nat,v=.int m∧m<b ^ ps.sum∧Mx.nrI b d ps ws m=1∧Mx.nrN b d ps ws m=k
end
noncomputable def spByV:Sp:=fun vs H Q _=>∃ (f a c:Addr) (b:Nat) (ps:List Nat) (ws:List Int) (d k:Nat),vs=[.ref f,.int d,.int k]∧FrAt H f a c b ps ws∧∀ (v:V) (H':Hp),Same H H'→ByV b d ps ws k v→Q v H'
noncomputable def spEvByV:Sp:=fun vs H Q _=>∃ (f a c:Addr) (b:Nat) (ps:List Nat) (ws:List Int) (k:Nat),vs=[.ref f,.int k]∧FrAt H f a c b ps ws∧∀ (v:V) (H':Hp),Same H H'→ByV b 0 ps ws k v→Q v H'
theorem by_imp (vs:List V) (H:Hp) (Q:VK) (E:XK) (h:spByV vs H Q E):spNearBy vs H Q E:=by
  obtain ⟨f,a,c,b,ps,ws,d,k,rfl,G,h⟩:=h
  exact ⟨f,a,c,b,ps,ws,d,k,rfl,G,fun H' s h0=>h .non H' s (.inl ⟨rfl,h0⟩),fun m H' s h1 h2 h3=>h (.int m) H' s (.inr ⟨m,rfl,h1,h2,h3⟩)⟩
theorem evby_imp (vs:List V) (H:Hp) (Q:VK) (E:XK) (h:spEvByV vs H Q E):spEvenByK vs H Q E:=by
  obtain ⟨f,a,c,b,ps,ws,k,rfl,G,h⟩:=h
  exact ⟨f,a,c,b,ps,ws,k,rfl,G,fun H' s h0=>h .non H' s (.inl ⟨rfl,h0⟩),fun m H' s h1 h2 h3=>h (.int m) H' s (.inr ⟨m,rfl,h1,h2,h3⟩)⟩
section
variable {H:Hp} {Q:VK} {E:XK} {f a c:Addr} {b d n k:Nat} {ps:List Nat} {ws:List Int}
theorem ByV.far (h:(k:Int)<Mx.nrN b d ps ws (b ^ ps.sum)) {v:V} (q:ByV b d ps ws k v):∃ m:Nat,v=.int m∧m<b ^ ps.sum∧Mx.nrI b d ps ws m=1∧Mx.nrN b d ps ws m=k:=by
  rcases q with ⟨_,z⟩ | q
  · lia
  · exact q
theorem ByV.none (h:Mx.nrN b d ps ws (b ^ ps.sum)≤(k:Int)) {v:V} (q:ByV b d ps ws k v):v=.non:=by
  rcases q with ⟨z,_⟩ | ⟨m,_,h1,h2,h3⟩
  · exact z
  · exfalso
    have e:=Mx.nrN_succ b d ps ws m
    have:=Mx.nrN_le (b:=b) (d:=d) (ps:=ps) (ws:=ws) (show m+1≤b ^ ps.sum by lia)
    lia
theorem ByV.self (hn:n<b ^ ps.sum) (hi:Mx.nrI b d ps ws n=1) (hk:Mx.nrN b d ps ws n=k) {v:V} (q:ByV b d ps ws k v):v=.int n:=by
  have e:=Mx.nrN_succ b d ps ws n
  have le:=Mx.nrN_le (b:=b) (d:=d) (ps:=ps) (ws:=ws) (show n+1≤b ^ ps.sum by lia)
  obtain ⟨m,rfl,h1,h2,h3⟩:=q.far (by lia)
  rw [Mx.nr_uniq h2 hi (by lia)]
theorem ByV.same {v u:V} (q:ByV b d ps ws k v) (r:ByV b d ps ws k u):v=u:=by
  rcases q with ⟨z,y⟩ | ⟨m,rfl,h1,h2,h3⟩
  · rw [z,r.none y]
  · exact (r.self h1 h2 h3).symm
end
theorem same_kp {H H2 H3:Hp} {q:Addr} (s:Same H H2) (h:H q=none) (k:Kp [q] H2 H3):Same H H3:=fun b o e=>k b o (s b o e) (fun z=>by
  have z':b=q:=by simpa using z
  rw [z',h] at e;cases e)
end Hv
namespace Hv
open PySem L2
structure MDef (P:Program) (w:World) (K:PySem.W.Frag) (mg:Str→Option Value) (base:Heap) (k:Nat) (C:Addr) (m:Str) (ps:List Str) (sp:Sp):Prop where
  ex:∃ f fd,FnOk P w K mg base CX0 k f fd ps sp∧Meth K C m f∧Binds K fd ps []
structure CDef (P:Program) (w:World) (K:PySem.W.Frag) (mg:Str→Option Value) (base:Heap) (k:Nat) (x:Str) (C:Addr) (ps:List Str) (sp:Sp):Prop where
  ex:∃ f fd,FnOk P w K mg base CX0 k f fd ps sp∧Mk K C f∧mg x=some (.ref C)∧Binds K fd ps []
section
variable {X:Cx} {k:Nat} {C:Addr} {x m:Str} {ps:List Str} {sp:Sp} {e o:Expr} {es:List Expr} {t:TA} {ta:TE} {p pos apos:Pos}
theorem pe_mt {pl:Sem Bool} (c:Cls X.K C) (D:MDef X.prog X.w X.K X.mg X.base k C m ps sp) (hr:Room k X.A) (he:PE X o ta) (ha:PA X (e::es) t)
    (hst:starEach (e::es) X.env=(false,eval e X.env)::starEach es X.env:=by rfl) (hpl:(backTo pos (starEach es X.env)).any (·.1)=false:=by rfl)
    (ht:eval (.Call (.Attribute o m apos) (e::es) [] pos) X.env=(do
      let ov ← eval o X.env
      standAt apos.atName
      let (f,first) ← holding [ov] (getMethod ov m pl)
      callWith pos f first (backTo pos (starEach (e::es) X.env)) (backToKw pos (keywordEach [] X.env))):=by rfl) :
    PE X (.Call (.Attribute o m apos) (e::es) [] pos) (tMeth C m sp [] E0 ta t):=by
  obtain ⟨f,fd,G,h1,h2⟩:=D.ex
  exact pe_meth he c h1 G hr h2 .nil pass0 ha hst hpl ht
theorem pe_mt0 {pl:Sem Bool} (c:Cls X.K C) (D:MDef X.prog X.w X.K X.mg X.base k C m ps sp) (hr:Room k X.A) (he:PE X o ta)
    (ht:eval (.Call (.Attribute o m apos) [] [] pos) X.env=(do
      let ov ← eval o X.env
      standAt apos.atName
      let (f,first) ← holding [ov] (getMethod ov m pl)
      callWith pos f first (backTo pos (starEach [] X.env)) (backToKw pos (keywordEach [] X.env))):=by rfl) :
    PE X (.Call (.Attribute o m apos) [] [] pos) (tMeth C m sp [] E0 ta tNil):=by
  obtain ⟨f,fd,G,h1,h2⟩:=D.ex
  exact pe_meth0 he c h1 G hr h2 .nil pass0 ht
theorem pe_mk (D:CDef X.prog X.w X.K X.mg X.base k x C ps sp) (hr:Room (k+1) X.A) (hg:Gl X x) (ha:PA X (e::es) t) (hdb:(x==("__debug__":Str))=false:=by decide)
    (he:starEach (e::es) X.env=(false,eval e X.env)::starEach es X.env:=by rfl) (hpl:(backTo pos (starEach es X.env)).any (·.1)=false:=by rfl):PE X (.Call (.Name x p) (e::es) [] pos) (tMake C sp [] E0 t):=by
  obtain ⟨f,fd,G,h1,h2,h3⟩:=D.ex
  exact pe_make h1 G hr hg h2 h3 .nil pass0 ha hdb he hpl
end
end Hv
namespace Hv
open PySem L2
noncomputable abbrev AF:=Addr×Addr×Addr
noncomputable def spCopyK:Sp:=fun vs H Q _=>∃ (f a c:Addr) (b:Nat) (ps:List Nat) (ws:List Int),vs=[.ref f]∧FrAt H f a c b ps ws∧∀ (f' a' c':Addr) (H':Hp),Same H H'→FrAt H' f' a' c' b ps ws→H f'=none→H a'=none→H c'=none→a'≠c'→Q (.ref f') H'
noncomputable def stF (sl:Addr):List (Str×V):=putF "standing" (.ref sl) []
theorem stF_get {sl:Addr}:(stF sl).lookup ("standing":Str)=some (.ref sl):=by
  unfold stF
  rw [lookup_putF,if_pos rfl]
theorem stF_no {sl:Addr} {m:Str} (h:¬ m="standing"):(stF sl).lookup m=none:=by
  unfold stF
  rw [lookup_putF,if_neg h]
  rfl
structure KpAt (C:Addr) (H:Hp) (kp dx sl:Addr) (as:List AF) (b:Nat) (ps:List Nat) (wss:List (List Int)):Prop where
  ob:H kp=some (.ins C dx (stF sl))
  ls:H sl=some (.lst (as.map fun x=>V.ref x.1))
  len:as.length=wss.length
  each:∀ (i:Nat) (x:AF) (ws:List Int),as[i]?=some x→wss[i]?=some ws→FrAt H x.1 x.2.1 x.2.2 b ps ws
section
variable {C:Addr} {H H':Hp} {kp dx sl:Addr} {as:List AF} {b:Nat} {ps:List Nat} {wss:List (List Int)}
theorem KpAt.keep (S:KpAt C H kp dx sl as b ps wss) (s:Same H H'):KpAt C H' kp dx sl as b ps wss:=⟨s _ _ S.ob,s _ _ S.ls,S.len,fun i x ws h1 h2=>(S.each i x ws h1 h2).keep s⟩
theorem KpAt.last {ini:List (List Int)} {ws:List Int} (S:KpAt C H kp dx sl as b ps (ini++[ws])):∃ ai x,as=ai++[x]∧ai.length=ini.length∧FrAt H x.1 x.2.1 x.2.2 b ps ws∧atI (as.map fun x=>V.ref x.1) (-1)=some (V.ref x.1):=by
  have hne:as≠[]:=fun z=>by have:=S.len;rw [z] at this;simp at this
  refine ⟨as.dropLast,as.getLast hne,(List.dropLast_concat_getLast hne).symm,?_,?_,?_⟩
  · rw [List.length_dropLast,S.len];simp
  · refine S.each (as.length - 1) _ _ ?_ ?_
    · rw [← List.getLast?_eq_getElem?,List.getLast?_eq_some_getLast hne]
    · rw [S.len,List.length_append,List.length_singleton,Nat.add_sub_cancel,List.getElem?_append_right (Nat.le_refl _)];simp
  · have e:(as.map fun x=>V.ref x.1)=(as.dropLast.map fun x=>V.ref x.1)++[V.ref (as.getLast hne).1]:=by
      conv=>lhs;rw [← List.dropLast_concat_getLast hne]
      rw [List.map_append];rfl
    rw [e];exact atI_last _ _
theorem KpAt.push {ws:List Int} {x:AF} (S:KpAt C H kp dx sl as b ps wss) (G:FrAt H x.1 x.2.1 x.2.2 b ps ws) (hk:kp≠sl) (ho:∀ x'∈as++[x],sl≠x'.1∧sl≠x'.2.1∧sl≠x'.2.2):KpAt C (upd H sl (.lst ((as.map fun x=>V.ref x.1)++[V.ref x.1]))) kp dx sl (as++[x]) b ps (wss++[ws]):=by
  have mv:∀ {y:AF} {v:List Int},(sl≠y.1∧sl≠y.2.1∧sl≠y.2.2)→FrAt H y.1 y.2.1 y.2.2 b ps v→FrAt (upd H sl (.lst ((as.map fun x=>V.ref x.1)++[V.ref x.1]))) y.1 y.2.1 y.2.2 b ps v:=fun h g =>
    ⟨by rw [upd_ne h.1.symm];exact g.tp,by rw [upd_ne h.2.1.symm];exact g.hp,by rw [upd_ne h.2.2.symm];exact g.hw,g.ok⟩
  refine ⟨by rw [upd_ne hk];exact S.ob,by rw [upd_same,List.map_append];rfl,by simp [S.len],fun i y v h1 h2=>?_⟩
  by_cases hi:i<as.length
  · rw [List.getElem?_append_left hi] at h1
    rw [List.getElem?_append_left (by rw [← S.len];exact hi)] at h2
    exact mv (ho y (List.mem_append_left _ (List.mem_of_getElem? h1))) (S.each i y v h1 h2)
  · have hl:=(List.getElem?_eq_some_iff.mp h1).1
    rw [List.length_append,List.length_singleton] at hl
    have e:i=as.length:=by lia
    subst e
    rw [List.getElem?_append_right (Nat.le_refl _)] at h1
    rw [S.len,List.getElem?_append_right (Nat.le_refl _)] at h2
    simp at h1 h2
    subst h1;subst h2
    exact mv (ho x (List.mem_append_right _ (List.mem_singleton.mpr rfl))) G
theorem KpAt.sl_off (S:KpAt C H kp dx sl as b ps wss) (hne:as≠[]):kp≠sl∧∀ x'∈as,sl≠x'.1∧sl≠x'.2.1∧sl≠x'.2.2:=by
  refine ⟨fun z=>(by have h1:=S.ob;rw [z,S.ls] at h1;cases h1),fun x hx=>?_⟩
  obtain ⟨i,hi⟩:=List.getElem?_of_mem hx
  have hl:i<wss.length:=by rw [← S.len];exact (List.getElem?_eq_some_iff.mp hi).1
  have G:=S.each i x _ hi (List.getElem?_eq_getElem hl)
  have l2:=G.ok.l2
  have hwl:=G.ok.wl
  have hsm:=G.ok.sum
  obtain ⟨x0,r,rfl⟩:=List.exists_cons_of_ne_nil hne
  refine ⟨fun z=>?_,fun z=>?_,fun z=>?_⟩
  · have h1:=G.tp;rw [← z,S.ls] at h1;cases h1
  · have h1:=G.hp;rw [← z,S.ls] at h1
    cases ps with
    | nil=>simp at l2
    | cons p q=>simp [natV] at h1
  · have h1:=G.hw;rw [← z,S.ls] at h1
    generalize wss[i]=ww at h1 hwl hsm
    cases ww with
    | nil=>simp at hwl;lia
    | cons p q=>simp at h1
theorem KpAt.pop {ws:List Int} {ai:List AF} {x:AF} (S:KpAt C H kp dx sl (ai++[x]) b ps (wss++[ws])) (hne:ai≠[]):KpAt C (upd H sl (.lst (ai.map fun x=>V.ref x.1))) kp dx sl ai b ps wss:=by
  have ⟨o1,o2⟩:=S.sl_off (by simp)
  have hl:ai.length=wss.length:=by have:=S.len;simp at this;exact this
  refine ⟨by rw [upd_ne o1];exact S.ob,upd_same,hl,fun i y v h1 h2=>?_⟩
  have hi:=(List.getElem?_eq_some_iff.mp h1).1
  have g:=S.each i y v (by rw [List.getElem?_append_left hi];exact h1) (by rw [List.getElem?_append_left (by lia)];exact h2)
  have h:=o2 y (List.mem_append_left _ (List.mem_of_getElem? h1))
  exact ⟨by rw [upd_ne h.1.symm];exact g.tp,by rw [upd_ne h.2.1.symm];exact g.hp,by rw [upd_ne h.2.2.symm];exact g.hw,g.ok⟩
end
noncomputable abbrev evN (b:Nat) (ps:List Nat) (ws:List Int):Int:=Mx.nrN b 0 ps ws (b ^ ps.sum)
noncomputable def spWith:Sp:=fun vs H Q _=>∃ (f a c:Addr) (b:Nat) (ps:List Nat) (ws:List Int) (p:Nat) (wt:Int),vs=[.ref f,.int p,.int wt]∧FrAt H f a c b ps ws∧p<ws.length∧-9≤wt∧wt≤9∧∀ (f' a' c':Addr) (H':Hp),Same H H'→FrAt H' f' a' c' b ps (ws.set p wt)→H f'=none→H a'=none→H c'=none→Q (.ref f') H'
noncomputable def spInit (C:Addr):Sp:=fun vs H Q _=>∃ (kp dx f a c:Addr) (b:Nat) (ps:List Nat) (ws:List Int),vs=[.ref kp,.ref f]∧H kp=some (.ins C dx [])∧FrAt H f a c b ps ws∧∀ (sl:Addr) (x:AF) (H':Hp),H sl=none→H x.1=none→H x.2.1=none→H x.2.2=none→KpAt C H' kp dx sl [x] b ps [ws]→Kp [kp] H H'→Q .non H'
noncomputable def spWeigh (C:Addr):Sp:=fun vs H Q _=>∃ (kp dx sl:Addr) (as:List AF) (b:Nat) (ps:List Nat) (ini:List (List Int)) (ws:List Int) (p:Nat) (wt:Int),vs=[.ref kp,.int p,.int wt]∧KpAt C H kp dx sl as b ps (ini++[ws])∧p<ws.length∧-9≤wt∧wt≤9∧ini.length≤1000∧
  ∀ (t:Addr) (x:AF) (H':Hp),H t=none→H' t=some (.tup [.int (evN b ps ws),.int (evN b ps (ws.set p wt))])→H x.1=none→H x.2.1=none→H x.2.2=none→KpAt C H' kp dx sl (as++[x]) b ps (ini++[ws]++[ws.set p wt])→Kp [sl] H H'→Q (.ref t) H'
noncomputable def spUndo (C:Addr):Sp:=fun vs H Q _=>∃ (kp dx sl:Addr) (ai:List AF) (x:AF) (b:Nat) (ps:List Nat) (ini:List (List Int)) (ws wz:List Int),vs=[.ref kp]∧KpAt C H kp dx sl (ai++[x]) b ps (ini++[ws]++[wz])∧ini.length≤1000∧
  ∀ (t:Addr) (H':Hp),H t=none→H' t=some (.tup [.int (evN b ps wz),.int (evN b ps ws)])→KpAt C H' kp dx sl ai b ps (ini++[ws])→Kp [sl] H H'→Q (.ref t) H'
noncomputable def spFrameK (C:Addr):Sp:=fun vs H Q _=>∃ (kp dx sl:Addr) (as:List AF) (b:Nat) (ps:List Nat) (ini:List (List Int)) (ws:List Int),vs=[.ref kp]∧KpAt C H kp dx sl as b ps (ini++[ws])∧∀ (f' a' c':Addr) (H':Hp),Same H H'→FrAt H' f' a' c' b ps ws→H f'=none→H a'=none→H c'=none→Q (.ref f') H'
noncomputable def spNearK (C:Addr):Sp:=fun vs H Q _=>∃ (kp dx sl:Addr) (as:List AF) (b:Nat) (ps:List Nat) (ini:List (List Int)) (ws:List Int) (d:Nat),vs=[.ref kp,.int d]∧KpAt C H kp dx sl as b ps (ini++[ws])∧∀ H':Hp,Same H H'→Q (.int (Mx.nrN b d ps ws (b ^ ps.sum))) H'
noncomputable def spEvenK (C:Addr):Sp:=fun vs H Q _=>∃ (kp dx sl:Addr) (as:List AF) (b:Nat) (ps:List Nat) (ini:List (List Int)) (ws:List Int) (k:Nat),vs=[.ref kp,.int k]∧KpAt C H kp dx sl as b ps (ini++[ws])∧∀ (v:V) (H':Hp),Same H H'→ByV b 0 ps ws k v→Q v H'
noncomputable def spChanges (C:Addr):Sp:=fun vs H Q _=>∃ (kp dx sl:Addr) (as:List AF) (b:Nat) (ps:List Nat) (wss:List (List Int)),vs=[.ref kp]∧KpAt C H kp dx sl as b ps wss∧Q (.int ((wss.length:Int) - 1)) H
theorem ixN_nat {n p:Nat} (h:p<n):ixN n (p:Int)=some p:=by
  unfold ixN
  simp
  lia
section
variable {P:Program} {w:World} {K:PySem.W.Frag} {mg:Str→Option Value} {base:Heap} {C:Addr}
theorem scCopyOf:FnScope ["frame"] ["frame"] (defScope sCopyOf):=⟨rfl,rfl,rfl,by decide +kernel,rfl,by decide +kernel,by decide +kernel⟩
theorem ok_copyof {f:Addr} {fd:FuncData} (F:Fun K "copy_of" "copy_of" sCopyOf f fd) (T:Txt mg):FnOk P w K mg base CX0 1 f fd ["frame"] spCopyK:=by
  refine F.ok scCopyOf (fun vs H Q E h=>?_) (fun cdv A outer s H vs Q E hr h=>?_)
  · obtain ⟨f,a,c,b,ps,ws,rfl,_⟩:=h;rfl
  · obtain ⟨f,a,c,b,ps,ws,rfl,G,k⟩:=h
    have nd:=scCopyOf.nd
    refine ⟨_,(pss_one (ps_ret (pe_tup (pa_cons (ixt (pv 0) pe_int) (pa_cons (pe_callTy call_list_of (by rfl) T.list boot_list (pa_cons (ixt (pv 0) pe_int) pa_nil)) (pa_cons (pe_callTy call_list_of (by rfl) T.list boot_list (pa_cons (ixt (pv 0) pe_int) pa_nil)) pa_nil)))))),?_⟩
    refine ⟨_,rfl,_,_,_,_,rfl,rfl,SqT.of G.tp,rfl,⟨_,rfl,_,_,_,_,rfl,rfl,SqT.of G.tp,rfl,⟨a,_,rfl,.inl (SqL.of G.hp),fun a' ha'=>?_⟩⟩⟩
    have s1:=same_upd (o:=.lst (natV ps)) ha'
    have u1:(upd H a' (.lst (natV ps))) a'=_:=upd_same
    generalize upd H a' (.lst (natV ps))=H1 at s1 u1⊢
    refine ⟨_,rfl,_,_,_,_,rfl,rfl,SqT.of (s1 _ _ G.tp),rfl,⟨c,_,rfl,.inl (SqL.of (s1 _ _ G.hw)),fun c' hc'=>⟨sz (by simp),fun f' hf'=>?_⟩⟩⟩
    have s2:=same_upd (o:=.lst (ws.map V.int)) hc'
    have s3:=same_upd (o:=.tup [.int b,.ref a',.ref c']) hf'
    exact k f' a' c' _ (s1.trans (s2.trans s3)) ⟨upd_same,s3 _ _ (s2 _ _ u1),s3 _ _ upd_same,G.ok⟩ (s1.free (s2.free hf')) ha' (s1.free hc') (fun z=>by rw [← z,u1] at hc';cases hc')
theorem scWithWeight:FnScope ["frame","place","weight","changed"] ["frame","place","weight"] (defScope sWithWeight):=⟨rfl,rfl,rfl,by decide +kernel,rfl,by decide +kernel,by decide +kernel⟩
theorem ok_with {f:Addr} {fd:FuncData} (F:Fun K "with_weight" "with_weight" sWithWeight f fd) (T:Txt mg) (d_is_between:Def P w K mg base 2 "is_between" ["thing","least","greatest"] spBetw) (d_copy_of:Def P w K mg base 1 "copy_of" ["frame"] spCopyK):FnOk P w K mg base CX0 3 f fd ["frame","place","weight"] spWith:=by
  refine F.ok scWithWeight (fun vs H Q E h=>?_) (fun cdv A outer s H vs Q E hr h=>?_)
  · obtain ⟨f,a,c,b,ps,ws,p,wt,rfl,_⟩:=h;rfl
  · obtain ⟨f,a,c,b,ps,ws,p,wt,rfl,G,hp,w1,w2,k⟩:=h
    have nd:=scWithWeight.nd
    refine ⟨_,(pss_cons (ps_if (pt_not (pt_val (pe_fn d_is_between hr (by rfl) (pa_cons (pv 1) (pa_cons pe_int (pa_cons (pe_op op_sub (lenS T.len (by rfl) (ixt (pv 0) pe_int)) pe_int) pa_nil)))))) pss_never pss_nil)
      (pss_cons (ps_if (pt_not (pt_val (pe_fn d_is_between hr (by rfl) (pa_cons (pv 2) (pa_cons (pe_un un_neg pe_int) (pa_cons pe_int pa_nil)))))) pss_never pss_nil)
      (pss_cons (ps_set (i:=3) nd rfl (Or.inl rfl) (pe_fn d_copy_of (hr.mono (by decide)) (by rfl) (pa_cons (pv 0) pa_nil)))
      (pss_cons (ps_asg (pv 2) (pg_sub (ixt (pv 3) pe_int) (pv 1) set_list))
      (pss_one (ps_ret (pv 3))))))),?_⟩
    refine ⟨_,rfl,_,rfl,r_ixt G.tp rfl ⟨c,_,rfl,.inl (SqL.of G.hw),_,_,rfl,rfl,.int (p:Int),0,_,rfl,.int _,_,rfl,?_⟩⟩
    rw [show betw (.int (p:Int)) 0 ((((ws.map V.int).length:Nat):Int) - 1)=true by simp [betw];lia]
    refine iteF ⟨_,rfl,_,rfl,.int wt,-9,9,rfl,.int _,_,rfl,?_⟩
    rw [show betw (.int wt) (-9) 9=true by simp [betw];lia]
    refine iteF ⟨_,rfl,f,a,c,b,ps,ws,rfl,G,fun f' a' c' H1 s1 G1 nf na nc nac=>?_⟩
    refine ⟨_,rfl,_,rfl,_,_,_,_,rfl,rfl,SqT.of G1.tp,rfl,_,rfl,c',_,_,p,rfl,rfl,G1.hw,by rw [List.length_map];exact ixN_nat hp,?_⟩
    have e:(ws.map V.int).set p (V.int wt)=(ws.set p wt).map V.int:=by rw [List.map_set]
    have nfc:f'≠c':=fun z=>by have h1:=G1.tp;rw [z,G1.hw] at h1;cases h1
    refine ⟨_,rfl,k f' a' c' _ ?_ ⟨by rw [upd_ne nfc];exact G1.tp,by rw [upd_ne nac];exact G1.hp,by rw [upd_same,e],?_⟩ nf na nc⟩
    · intro y o hy
      rw [upd_ne (fun z=>by rw [z,nc] at hy;cases hy)]
      exact s1 y o hy
    · exact ⟨G.ok.b2,G.ok.b16,G.ok.l2,G.ok.l4,G.ok.pr,by rw [List.length_set];exact G.ok.wl,fun v hv=>by
        rcases List.mem_or_eq_of_mem_set hv with h | h
        · exact G.ok.wr v h
        · subst h;exact ⟨w1,w2⟩⟩
theorem scKeeperInit:FnScope ["self","frame"] ["self","frame"] (defScope sKeeperInit):=⟨rfl,rfl,rfl,by decide +kernel,rfl,by decide +kernel,by decide +kernel⟩
theorem ok_kinit {f:Addr} {fd:FuncData} (F:Fun K "__init__" "Keeper.__init__" sKeeperInit f fd) (nS:NoAttr K C "standing") (d_need_frame:Def P w K mg base 5 "need_frame" ["thing"] spNeedFrame) (d_copy_of:Def P w K mg base 1 "copy_of" ["frame"] spCopyK) (cl:Cls K C):FnOk P w K mg base CX0 6 f fd ["self","frame"] (spInit C):=by
  refine F.ok scKeeperInit (fun vs H Q E h=>?_) (fun cdv A outer s H vs Q E hr h=>?_)
  · obtain ⟨kp,dx,f,a,c,b,ps,ws,rfl,_⟩:=h;rfl
  · obtain ⟨kp,dx,f,a,c,b,ps,ws,rfl,hk,G,k⟩:=h
    have nd:=scKeeperInit.nd
    refine ⟨_,(pss_cons (ps_expr (pe_fn d_need_frame hr (by rfl) (pa_cons (pv 1) pa_nil)))
      (pss_one (ps_fld (pv 0) (pe_lst (pa_cons (pe_fn d_copy_of (hr.mono (by decide)) (by rfl) (pa_cons (pv 1) pa_nil)) pa_nil)) rfl))),?_⟩
    refine ⟨_,rfl,f,a,c,b,ps,ws,rfl,G,fun H1 s1=>?_⟩
    refine ⟨_,rfl,f,a,c,b,ps,ws,rfl,G.keep s1,fun f' a' c' H2 s2 G2 nf na nc nac=>⟨sz (by simp),fun sl hsl=>?_⟩⟩
    have s3:=same_upd (o:=.lst [V.ref f']) hsl
    have u3:(upd H2 sl (.lst [V.ref f'])) sl=_:=upd_same
    generalize upd H2 sl (.lst [V.ref f'])=H3 at s3 u3⊢
    have S3:=(s1.trans s2).trans s3
    have hk3:=S3 _ _ hk
    have G3:=G2.keep s3
    have nk:∀ {y:Addr} {o:HO},H y=none→y≠kp:=fun h z=>by rw [z,hk] at h;cases h
    refine ⟨_,rfl,kp,C,dx,[],rfl,hk3,cl,nS,by show 0<1000;decide,?_⟩
    refine k sl (f',a',c') _ ((s1.trans s2).free hsl) (s1.free nf) (s1.free na) (s1.free nc) ⟨upd_same,?_,rfl,?_⟩ ?_
    · rw [upd_ne (nk (o:=.lst []) ((s1.trans s2).free hsl))];exact u3
    · intro i x v h1 h2
      have hi:=(List.getElem?_eq_some_iff.mp h1).1
      have e:i=0:=by simp at hi;lia
      subst e
      simp at h1 h2
      subst h1;subst h2
      exact ⟨by rw [upd_ne (nk (o:=.lst []) (s1.free nf))];exact G3.tp,by rw [upd_ne (nk (o:=.lst []) (s1.free na))];exact G3.hp,by rw [upd_ne (nk (o:=.lst []) (s1.free nc))];exact G3.hw,G3.ok⟩
    · intro y o hy hn
      rw [upd_ne (fun z=>hn (by rw [z];exact List.mem_singleton.mpr rfl))]
      exact S3 y o hy
theorem scKeeperChanges:FnScope ["self"] ["self"] (defScope sKeeperChanges):=⟨rfl,rfl,rfl,by decide +kernel,rfl,by decide +kernel,by decide +kernel⟩
theorem ok_kchanges {f:Addr} {fd:FuncData} (F:Fun K "changes" "Keeper.changes" sKeeperChanges f fd) (T:Txt mg) (nS:NoAttr K C "standing") (cl:Cls K C):FnOk P w K mg base CX0 1 f fd ["self"] (spChanges C):=by
  refine F.ok scKeeperChanges (fun vs H Q E h=>?_) (fun cdv A outer s H vs Q E hr h=>?_)
  · obtain ⟨kp,dx,sl,as,b,ps,wss,rfl,_⟩:=h;rfl
  · obtain ⟨kp,dx,sl,as,b,ps,wss,rfl,S,k⟩:=h
    have nd:=scKeeperChanges.nd
    refine ⟨_,(pss_one (ps_ret (pe_op op_sub (lenS T.len (by rfl) (pe_fld (pv 0) rfl)) pe_int))),?_⟩
    refine ⟨_,rfl,kp,C,dx,_,_,rfl,S.ob,cl,nS,stF_get,sl,_,rfl,.inl (SqL.of S.ls),_,_,rfl,rfl,?_⟩
    rw [List.length_map,S.len]
    exact k
theorem scKeeperFrame:FnScope ["self"] ["self"] (defScope sKeeperFrame):=⟨rfl,rfl,rfl,by decide +kernel,rfl,by decide +kernel,by decide +kernel⟩
theorem ok_kframe {f:Addr} {fd:FuncData} (F:Fun K "frame" "Keeper.frame" sKeeperFrame f fd) (nS:NoAttr K C "standing") (d_copy_of:Def P w K mg base 1 "copy_of" ["frame"] spCopyK) (cl:Cls K C):FnOk P w K mg base CX0 2 f fd ["self"] (spFrameK C):=by
  refine F.ok scKeeperFrame (fun vs H Q E h=>?_) (fun cdv A outer s H vs Q E hr h=>?_)
  · obtain ⟨kp,dx,sl,as,b,ps,ini,ws,rfl,_⟩:=h;rfl
  · obtain ⟨kp,dx,sl,as,b,ps,ini,ws,rfl,S,k⟩:=h
    have nd:=scKeeperFrame.nd
    refine ⟨_,(pss_one (ps_ret (pe_fn d_copy_of hr (by rfl) (pa_cons (ixl (pe_fld (pv 0) rfl) (pe_un un_neg pe_int)) pa_nil)))),?_⟩
    obtain ⟨ai,x,rfl,hai,G,e⟩:=S.last
    refine ⟨_,rfl,kp,C,dx,_,_,rfl,S.ob,cl,nS,stF_get,_,rfl,r_ixl S.ls e ⟨_,_,_,b,ps,ws,rfl,G,fun f' a' c' H' s' G' nf na nc _=>k f' a' c' H' s' G' nf na nc⟩⟩
theorem scKeeperNear:FnScope ["self","d"] ["self","d"] (defScope sKeeperNear):=⟨rfl,rfl,rfl,by decide +kernel,rfl,by decide +kernel,by decide +kernel⟩
theorem ok_knear {f:Addr} {fd:FuncData} (F:Fun K "near" "Keeper.near" sKeeperNear f fd) (nS:NoAttr K C "standing") (d_count_near:Def P w K mg base 6 "count_near" ["frame","d"] spCountNear) (cl:Cls K C):FnOk P w K mg base CX0 7 f fd ["self","d"] (spNearK C):=by
  refine F.ok scKeeperNear (fun vs H Q E h=>?_) (fun cdv A outer s H vs Q E hr h=>?_)
  · obtain ⟨kp,dx,sl,as,b,ps,ini,ws,d,rfl,_⟩:=h;rfl
  · obtain ⟨kp,dx,sl,as,b,ps,ini,ws,d,rfl,S,k⟩:=h
    have nd:=scKeeperNear.nd
    refine ⟨_,(pss_one (ps_ret (pe_fn d_count_near hr (by rfl) (pa_cons (ixl (pe_fld (pv 0) rfl) (pe_un un_neg pe_int)) (pa_cons (pv 1) pa_nil))))),?_⟩
    obtain ⟨ai,x,rfl,hai,G,e⟩:=S.last
    exact ⟨_,rfl,kp,C,dx,_,_,rfl,S.ob,cl,nS,stF_get,_,rfl,r_ixl S.ls e ⟨_,rfl,_,_,_,b,ps,ws,d,rfl,G,fun H' s'=>k H' s'⟩⟩
theorem scKeeperEven:FnScope ["self","k"] ["self","k"] (defScope sKeeperEven):=⟨rfl,rfl,rfl,by decide +kernel,rfl,by decide +kernel,by decide +kernel⟩
theorem ok_keven {f:Addr} {fd:FuncData} (F:Fun K "even" "Keeper.even" sKeeperEven f fd) (nS:NoAttr K C "standing") (d_even_by:Def P w K mg base 13 "even_by" ["frame","k"] spEvByV) (cl:Cls K C):FnOk P w K mg base CX0 14 f fd ["self","k"] (spEvenK C):=by
  refine F.ok scKeeperEven (fun vs H Q E h=>?_) (fun cdv A outer s H vs Q E hr h=>?_)
  · obtain ⟨kp,dx,sl,as,b,ps,ini,ws,j,rfl,_⟩:=h;rfl
  · obtain ⟨kp,dx,sl,as,b,ps,ini,ws,j,rfl,S,k⟩:=h
    have nd:=scKeeperEven.nd
    refine ⟨_,(pss_one (ps_ret (pe_fn d_even_by hr (by rfl) (pa_cons (ixl (pe_fld (pv 0) rfl) (pe_un un_neg pe_int)) (pa_cons (pv 1) pa_nil))))),?_⟩
    obtain ⟨ai,x,rfl,hai,G,e⟩:=S.last
    exact ⟨_,rfl,kp,C,dx,_,_,rfl,S.ob,cl,nS,stF_get,_,rfl,r_ixl S.ls e ⟨_,rfl,_,_,_,b,ps,ws,j,rfl,G,fun v H' s' hv=>k v H' s' hv⟩⟩
theorem scKeeperWeigh:FnScope ["self","place","weight","earlier","later"] ["self","place","weight"] (defScope sKeeperWeigh):=⟨rfl,rfl,rfl,by decide +kernel,rfl,by decide +kernel,by decide +kernel⟩
theorem ok_kweigh {f:Addr} {fd:FuncData} (F:Fun K "weigh" "Keeper.weigh" sKeeperWeigh f fd) (nS:NoAttr K C "standing") (d_with_weight:Def P w K mg base 3 "with_weight" ["frame","place","weight"] spWith) (d_count_even:Def P w K mg base 7 "count_even" ["frame"] spCountEven) (cl:Cls K C):FnOk P w K mg base CX0 8 f fd ["self","place","weight"] (spWeigh C):=by
  refine F.ok scKeeperWeigh (fun vs H Q E h=>?_) (fun cdv A outer s H vs Q E hr h=>?_)
  · obtain ⟨kp,dx,sl,as,b,ps,ini,ws,p,wt,rfl,_⟩:=h;rfl
  · obtain ⟨kp,dx,sl,as,b,ps,ini,ws,p,wt,rfl,S,hp,w1,w2,hl,k⟩:=h
    have nd:=scKeeperWeigh.nd
    refine ⟨_,(pss_cons (ps_set (i:=3) nd rfl (Or.inl rfl) (ixl (pe_fld (pv 0) rfl) (pe_un un_neg pe_int)))
      (pss_cons (ps_set (i:=4) nd rfl (Or.inl rfl) (pe_fn d_with_weight (hr.mono (by decide)) (by rfl) (pa_cons (pv 3) (pa_cons (pv 1) (pa_cons (pv 2) pa_nil)))))
      (pss_cons (ps_expr (pe_bm PySem.F.plainAttrs_list PySem.F.slot_list_append PySem.F.type_list_append mt_append (pe_fld (pv 0) rfl) (pa_cons (pv 4) pa_nil)))
      (pss_one (ps_ret (pe_tup (pa_cons (pe_fn d_count_even hr (by rfl) (pa_cons (pv 3) pa_nil)) (pa_cons (pe_fn d_count_even hr (by rfl) (pa_cons (pv 4) pa_nil)) pa_nil)))))))),?_⟩
    obtain ⟨ai,x,e0,hai,G,e⟩:=S.last
    have hne:as≠[]:=by rw [e0];simp
    obtain ⟨o1,o2⟩:=S.sl_off hne
    refine ⟨_,rfl,kp,C,dx,_,_,rfl,S.ob,cl,nS,stF_get,_,rfl,r_ixl S.ls e ?_⟩
    refine ⟨_,rfl,_,rfl,_,rfl,_,_,_,b,ps,ws,p,wt,rfl,G,hp,w1,w2,fun f' a' c' H1 s1 G1 nf na nc=>?_⟩
    have S1:=S.keep s1
    have hs:∀ {y:Addr},H y=none→sl≠y:=fun h z=>by rw [← z,S.ls] at h;cases h
    refine ⟨_,rfl,kp,C,dx,_,_,rfl,S1.ob,cl,nS,stF_get,.inl ⟨rfl,_,SqL.of S1.ls⟩,_,rfl,sl,_,_,rfl,rfl,S1.ls,szl (by rw [List.length_map,S.len];simp;lia),?_⟩
    have S2:=S1.push (x:=(f',a',c')) G1 o1 (fun x' hx'=>by
      rcases List.mem_append.mp hx' with h | h
      · exact o2 x' h
      · rw [List.mem_singleton.mp h];exact ⟨hs nf,hs na,hs nc⟩)
    have K2:Kp [sl] H (upd H1 sl (.lst ((as.map fun x=>V.ref x.1)++[V.ref f']))):=fun y o hy hn=>by
      rw [upd_ne (fun z=>hn (by rw [z];exact List.mem_singleton.mpr rfl))]
      exact s1 y o hy
    have Gx:FrAt (upd H1 sl (.lst ((as.map fun x=>V.ref x.1)++[V.ref f']))) x.1 x.2.1 x.2.2 b ps ws:=by
      have h:=o2 x (by rw [e0];simp)
      have g:=G.keep s1
      exact ⟨by rw [upd_ne h.1.symm];exact g.tp,by rw [upd_ne h.2.1.symm];exact g.hp,by rw [upd_ne h.2.2.symm];exact g.hw,g.ok⟩
    have Gy:FrAt (upd H1 sl (.lst ((as.map fun x=>V.ref x.1)++[V.ref f']))) f' a' c' b ps (ws.set p wt) :=
      ⟨by rw [upd_ne (hs nf).symm];exact G1.tp,by rw [upd_ne (hs na).symm];exact G1.hp,by rw [upd_ne (hs nc).symm];exact G1.hw,G1.ok⟩
    generalize upd H1 sl (.lst ((as.map fun x=>V.ref x.1)++[V.ref f']))=H2 at S2 K2 Gx Gy⊢
    refine ⟨_,rfl,x.1,x.2.1,x.2.2,b,ps,ws,rfl,Gx,fun H3 s3=>?_⟩
    refine ⟨_,rfl,f',a',c',b,ps,_,rfl,Gy.keep s3,fun H4 s4=>⟨sz (by simp),fun t ht=>?_⟩⟩
    have s5:=same_upd (o:=.tup [.int (evN b ps ws),.int (evN b ps (ws.set p wt))]) ht
    have K4:Kp [sl] H H4:=(K2.same s3).same s4
    exact k t (f',a',c') _ (K4.free ht (fun z=>by rw [List.mem_singleton.mp z,(S2.keep (s3.trans s4)).ls] at ht;cases ht)) upd_same nf na nc (S2.keep ((s3.trans s4).trans s5)) (K4.same s5)
theorem scKeeperUndo:FnScope ["self","undone"] ["self"] (defScope sKeeperUndo):=⟨rfl,rfl,rfl,by decide +kernel,rfl,by decide +kernel,by decide +kernel⟩
theorem ok_kundo {f:Addr} {fd:FuncData} (F:Fun K "undo" "Keeper.undo" sKeeperUndo f fd) (nS:NoAttr K C "standing") (d_count_even:Def P w K mg base 7 "count_even" ["frame"] spCountEven) (cl:Cls K C) (m_changes:MDef P w K mg base 1 C "changes" ["self"] (spChanges C)):FnOk P w K mg base CX0 8 f fd ["self"] (spUndo C):=by
  refine F.ok scKeeperUndo (fun vs H Q E h=>?_) (fun cdv A outer s H vs Q E hr h=>?_)
  · obtain ⟨kp,dx,sl,ai,x,b,ps,ini,ws,wz,rfl,_⟩:=h;rfl
  · obtain ⟨kp,dx,sl,ai,x,b,ps,ini,ws,wz,rfl,S,hl,k⟩:=h
    have nd:=scKeeperUndo.nd
    refine ⟨_,(pss_cons (ps_if (pt_cmpR op_eq (pe_mt0 cl m_changes (hr.mono (by decide)) (pv 0)) pe_int (nomark _)) pss_never pss_nil)
      (pss_cons (ps_set (i:=1) nd rfl (Or.inl rfl) (pe_bm0 PySem.F.plainAttrs_list PySem.F.slot_list_pop PySem.F.type_list_pop mt_pop (pe_fld (pv 0) rfl)))
      (pss_one (ps_ret (pe_tup (pa_cons (pe_fn d_count_even hr (by rfl) (pa_cons (pv 1) pa_nil)) (pa_cons (pe_fn d_count_even hr (by rfl) (pa_cons (ixl (pe_fld (pv 0) rfl) (pe_un un_neg pe_int)) pa_nil)) pa_nil))))))),?_⟩
    have Gz:FrAt H x.1 x.2.1 x.2.2 b ps wz:=by
      have:=S.len
      simp at this
      refine S.each ai.length x wz (by simp) ?_
      rw [show ai.length=(ini++[ws]).length by simp;lia,List.getElem?_append_right (Nat.le_refl _)]
      simp
    have hla:ai.length=ini.length+1:=by have:=S.len;simp at this;lia
    have hne:ai≠[]:=fun z=>by rw [z] at hla;simp at hla
    obtain ⟨o1,o2⟩:=S.sl_off (by simp)
    refine ⟨_,rfl,kp,dx,_,rfl,S.ob,stF_no (by decide +kernel),kp,dx,sl,_,b,ps,_,rfl,S,rfl,_,rfl,?_⟩
    rw [decide_eq_false (by intro z;injection z with z;simp at z;lia)]
    refine iteF ?_
    have elast:((ai++[x]).map fun x=>V.ref x.1)[((ai++[x]).map fun x=>V.ref x.1).length - 1]?=some (V.ref x.1):=by simp
    have edrop:((ai++[x]).map fun x=>V.ref x.1).dropLast=ai.map fun x=>V.ref x.1:=by rw [List.map_append];simp
    refine ⟨_,rfl,kp,C,dx,_,_,rfl,S.ob,cl,nS,stF_get,.inl ⟨rfl,_,SqL.of S.ls⟩,sl,_,_,rfl,rfl,S.ls,elast,?_⟩
    rw [edrop]
    have S1:=S.pop hne
    have K1:Kp [sl] H (upd H sl (.lst (ai.map fun x=>V.ref x.1))):=fun y o hy hn=>by
      rw [upd_ne (fun z=>hn (by rw [z];exact List.mem_singleton.mpr rfl))]
      exact hy
    have h:=o2 x (by simp)
    have G1:FrAt (upd H sl (.lst (ai.map fun x=>V.ref x.1))) x.1 x.2.1 x.2.2 b ps wz:=⟨by rw [upd_ne h.1.symm];exact Gz.tp,by rw [upd_ne h.2.1.symm];exact Gz.hp,by rw [upd_ne h.2.2.symm];exact Gz.hw,Gz.ok⟩
    generalize upd H sl (.lst (ai.map fun x=>V.ref x.1))=H1 at S1 K1 G1⊢
    refine ⟨_,rfl,x.1,x.2.1,x.2.2,b,ps,wz,rfl,G1,fun H2 s2=>?_⟩
    have S2:=S1.keep s2
    obtain ⟨aj,y,e0,haj,Gy,ey⟩:=S2.last
    refine ⟨_,rfl,kp,C,dx,_,_,rfl,S2.ob,cl,nS,stF_get,_,rfl,r_ixl S2.ls ey ⟨y.1,y.2.1,y.2.2,b,ps,ws,rfl,Gy,fun H3 s3=>⟨sz (by simp),fun t ht=>?_⟩⟩⟩
    have s4:=same_upd (o:=.tup [.int (evN b ps wz),.int (evN b ps ws)]) ht
    have K3:Kp [sl] H H3:=(K1.same s2).same s3
    exact k t _ (K3.free ht (fun z=>by rw [List.mem_singleton.mp z,(S2.keep s3).ls] at ht;cases ht)) upd_same (S2.keep (s3.trans s4)) (K3.same s4)
end
end Hv
namespace L2.HT
open PySem PySem.Spec PyProof.Rows
section
variable {prog:Program} {w:World} {A:Around} {E:Value→Shared→Prop} {s:Shared}
theorem sliceApplied_rev2 {sl:Addr} {tk:Tok} {Q:Int×Int×Nat→Shared→Prop} (hs:s.heap.IsSliceOf sl .none .none (.int (-1) tk))
    (h:Q ((1:Int),-1,2) s):wpAny (model prog w) A (Builtin.Slice.sliceApplied (.ref sl) (pure ((2:Nat):Int))) Q E s:=by
  obtain ⟨os,hos,hcs,hds⟩:=id hs
  unfold Builtin.Slice.sliceApplied Builtin.Slice.sliceFields
  refine wpAny_bind (wpAny_bind (wpAny_field hos hds (x:=.none) rfl (wpAny_bind (wpAny_field hos hds (x:=.none) rfl (wpAny_bind (wpAny_field hos hds (x:=.int (-1) tk) rfl (wpAny_pure ?_)))))))
  refine wpAny_bind (slicePart_int ?_)
  show wpAny _ _ (if ((-1:Int)==0)=true then _ else _) _ _ s
  rw [if_neg (by decide)]
  refine wpAny_bind (slicePart_none (wpAny_bind (slicePart_none (wpAny_bind (wpAny_pure ?_)))))
  exact wpAny_pure h
theorem getItem_tuple_rev2 {t sl:Addr} {u0 u1:Value} {tk:Tok} {Q:Value→Shared→Prop} (ht:IsTup s.heap t #[u0,u1]) (hs:s.heap.IsSliceOf sl .none .none (.int (-1) tk))
    (h:Q (.ref s.heap.objs.size) {s with heap:=s.heap.push {cls:=.type "tuple",data:=.seq #[u1,u0]}}):wpAny (model prog w) A (getItem (.ref t) (.ref sl)) Q E s:=by
  have htake:sizeOk (.seq #[u1,u0]):=by
    show (2:Nat)≤sizeLine
    decide
  obtain ⟨os,hos,hcs,hds⟩:=id hs
  have hTs:s.TypeIs (.ref sl) "slice":=⟨os,hos,hcs⟩
  unfold getItem
  try with_reducible refine wpAny_holding ?_
  first | refine wpAny_bind (wpAny_pure ?_) | skip
  refine wpAny_bind (wpAny_sequenceKey ht.typeIs (by decide) ?_)
  refine wpAny_bind (wpAny_callSpecial?_slot (name:=Str.ofString "__getitem__") ht.typeIs PyProof.Rows.slot_tuple_getitem
    (wpAny_call_entry PyProof.Rows.slot_tuple_getitem ht.typeIs entry_tuple_getitem ?_ (args_tuple_getitem _ _)))
  show wpAny _ _ (Builtin.Tuple.tupleItemsOf (.ref t)>>=_) _ _ s
  refine wpAny_bind (tupleItemsOf_ ht ?_)
  refine wpAny_bind (wpAny_typeOf hTs ?_)
  rw [if_pos (by decide)]
  refine wpAny_bind (sliceApplied_rev2 hs ?_)
  show wpAny _ _ (if ((1:Int)==0&&(-1:Int)==1&&(2:Nat)==2)=true then _ else _) _ _ s
  rw [if_neg (by decide)]
  have ep:((List.range 2).filterMap fun (m:Nat)=>(#[u0,u1]:Array Value)[((1:Int)+(m:Int)*(-1)).toNat]?).toArray=#[u1,u0]:=rfl
  rw [ep]
  first
    | exact wpAny_bind (m:=Builtin.Tuple.tupleExact _) (wpAny_newObj_type (wpAny_pure ⟨_,rfl,wpAny_pure h⟩) htake)
    | exact wpAny_bind (m:=Builtin.Tuple.tupleExact _) (wpAny_newObj_type (wpAny_bind (wpAny_pure (wpAny_pure ⟨_,rfl,wpAny_pure h⟩))) htake)
    | exact wpAny_bind (wpAny_bind (m:=Builtin.Tuple.tupleExact _) (wpAny_newObj_type (wpAny_pure (wpAny_pure ⟨_,rfl,wpAny_pure h⟩)) htake))
    | exact wpAny_bind (wpAny_bind (m:=Builtin.Tuple.tupleExact _) (wpAny_newObj_type (wpAny_pure ⟨_,rfl,wpAny_pure h⟩) htake))
end
end L2.HT
namespace L2
open PySem PySem.Spec PyProof.Rows
section
variable {X:Cx} {e st:Expr} {te ts:TE} {pos p2:Pos}
noncomputable def tSRevT (K:PySem.W.Frag) (te ts:TE):TE:=fun σ H Q=>te σ H fun x H1=>ts σ H1 fun y H2=>y=.int (-1)∧∃ a x0 x1,x=.ref a∧SqT K H2 a [x0,x1]∧∀ p,H2 p=none→Q (.ref p) (upd H2 p (.tup [x1,x0]))
theorem pe_srevT (he:PE X e te) (hs:PE X st ts):PE X (.Subscript e (.Slice none none (some st) p2) pos) (tSRevT X.K te ts):=by
  intro pins s σ H Q I h
  refine Subscript_ (thn (he pins s σ H _ I h) fun v s1 ⟨x,H1,I1,r1,q1⟩=>?_)
  refine wpAny_Slice ?_
  rw [evalPart_none]
  refine wpAny_pure (wpAny_pure ?_)
  rw [evalPart_some]
  refine thn (hs pins s1 σ H1 _ I1 q1) fun vs s3 ⟨y,H3,I3,r3,q3⟩=>?_
  obtain ⟨rfl,a,x0,x1,rfl,hx,q⟩:=q3
  obtain ⟨t,rfl⟩:=r3
  cases r1
  have I4:Inv X pins σ H3 {s3 with heap:=s3.heap.push {cls:=.type "slice",data:=.fields #[.none,.none,.int (-1) t]}}:=I3.kept (t':=s3.toks) fun b ob q=>Heap.get?_push_of_some _ q
  obtain ⟨its,r,ht,hz⟩:=I4.tuple hx
  obtain ⟨u0,u1,rfl,ru0,ru1⟩:∃ u0 u1,its=[u0,u1]∧RelV x0 u0∧RelV x1 u1:=by
    cases r with
    | cons h1 r1 =>
      cases r1 with
      | cons h2 r2 =>
        cases r2
        exact ⟨_,_,rfl,h1,h2⟩
  have hg:wpAny (model X.prog X.w) X.A (getItem (.ref a) (.ref s3.heap.objs.size)) (EP X pins σ Q) X.xe {s3 with heap:=s3.heap.push {cls:=.type "slice",data:=.fields #[.none,.none,.int (-1) t]}}:=by
    refine HT.getItem_tuple_rev2 ht (Heap.IsSliceOf.new ..) ?_
    refine ⟨.ref _,_,I4.laid (t':=s3.toks) (o:=.tup [x1,x0]) (fun b ob q=>Heap.get?_push_of_some _ q) (Nat.le_refl _) ?_,rfl,q _ (I4.hok.fresh (Nat.le_refl _))⟩
    exact ⟨by show (2:Nat)≤sizeLine;decide,[u1,u0],.cons ru1 (.cons ru0 .nil),IsTup.new _ _⟩
  show wpAny (model X.prog X.w) X.A (subscriptTail e (.Slice none none (some st) p2) (.ref a) (.ref s3.heap.objs.size)) (EP X pins σ Q) X.xe {s3 with heap:=s3.heap.push {cls:=.type "slice",data:=.fields #[.none,.none,.int (-1) t]}}
  exact tail_any (ops:=[.ref a,.ref s3.heap.objs.size]) ht.typeIs PyProof.Rows.slot_tuple_getitem.lookup hg (by with_unfolding_all rfl)
end
end L2
namespace Hv
open PySem L2
noncomputable def RefL (xs:List V):Prop:=∀ v∈xs,∃ a,v=V.ref a
noncomputable def NR (o:HO):Prop:=∀ ys,o=.lst ys→¬ RefL ys
noncomputable def Stay (H H':Hp):Prop:=∀ z o,H z=some o→NR o→H' z=some o
theorem refs_map {α:Type} (g:α→Addr) (l:List α):RefL (l.map fun x=>V.ref (g x)):=fun v hv=>by
  obtain ⟨x,_,rfl⟩:=List.mem_map.mp hv
  exact ⟨_,rfl⟩
theorem Kp.stay {H H':Hp} {y:Addr} {xs:List V} (k:Kp [y] H H') (hy:H y=some (.lst xs)) (hr:RefL xs):Stay H H':=fun z o e n=>k z o e (fun hz=>by
  rw [List.mem_singleton.mp hz,hy] at e
  exact n xs (Option.some.inj e).symm hr)
theorem same_stay {H H':Hp} (s:Same H H'):Stay H H':=fun z o e _=>s z o e
theorem nr_tup {xs:List V}:NR (.tup xs):=fun _ z=>by cases z
theorem nr_ins {C dx:Addr} {fs:List (Str×V)}:NR (.ins C dx fs):=fun _ z=>by cases z
theorem nr_mem {xs:List V} {i:Int} (h:V.int i∈xs):NR (.lst xs):=fun ys z r=>by
  cases z
  obtain ⟨a,e⟩:=r _ h
  cases e
theorem nr_nat {ps:List Nat} (h:1≤ps.length):NR (.lst (natV ps)):=by
  cases ps with
  | nil=>simp at h
  | cons p q=>exact nr_mem (i:=(p:Int)) (by simp [natV])
theorem nr_int {ws:List Int} (h:1≤ws.length):NR (.lst (ws.map V.int)):=by
  cases ws with
  | nil=>simp at h
  | cons p q=>exact nr_mem (i:=p) (by simp)
theorem FrAt.stay {H H':Hp} {f a c:Addr} {b:Nat} {ps:List Nat} {ws:List Int} (G:FrAt H f a c b ps ws) (s:Stay H H'):FrAt H' f a c b ps ws :=
  ⟨s _ _ G.tp nr_tup,s _ _ G.hp (nr_nat (by have:=G.ok.l2;lia)),s _ _ G.hw (nr_int (by have:=G.ok.wl;have:=G.ok.sum;lia)),G.ok⟩
theorem Store.stay {H H':Hp} {st:Addr} (S:Store H st) (s:Stay H H'):Store H' st:=let ⟨g,c,k,e⟩:=S;⟨g,c,k,s _ _ e (nr_mem (i:=g) (by simp))⟩
structure Ent (H:Hp) (l f a c:Addr) (v:V) (b:Nat) (ps:List Nat) (ws:List Int) (n:Nat):Prop where
  ls:H l=some (.lst [.ref f,.int (evN b ps ws),.int (Mx.nrN b 2 ps ws (b ^ ps.sum)),v,.int (n:Int)])
  fr:FrAt H f a c b ps ws
  bv:ByV b 0 ps ws 3 v
theorem Ent.stay {H H':Hp} {l f a c:Addr} {v:V} {b:Nat} {ps:List Nat} {ws:List Int} {n:Nat} (E:Ent H l f a c v b ps ws n) (s:Stay H H'):Ent H' l f a c v b ps ws n :=
  ⟨s _ _ E.ls (nr_mem (i:=evN b ps ws) (by simp)),E.fr.stay s,E.bv⟩
theorem Ent.kst {H H':Hp} {l f a c st:Addr} {v:V} {b:Nat} {ps:List Nat} {ws:List Int} {n:Nat} (E:Ent H l f a c v b ps ws n) (S:Store H st) (k:Kp [st] H H') (ha:a≠st) (hc:c≠st):Ent H' l f a c v b ps ws n :=
  ⟨k _ _ E.ls (fun z=>by
    obtain ⟨g,c',j,e⟩:=S
    have h:=E.ls
    rw [List.mem_singleton.mp z,e] at h
    cases h),E.fr.kps S ha hc k,E.bv⟩
noncomputable def EntS (H:Hp) (st l:Addr) (b:Nat) (ps:List Nat) (ws:List Int) (n:Nat):Prop:=∃ f a c v,Ent H l f a c v b ps ws n∧a≠st∧c≠st
theorem ent_eq {P:Program} {w:World} {H:Hp} {l f a c l' f' a' c':Addr} {v v':V} {b:Nat} {ps:List Nat} {ws:List Int} {n:Nat} {neg:Bool} {Q:VK} (E:Ent H l f a c v b ps ws n) (E':Ent H l' f' a' c' v' b ps ws n) (q:Q (.bl (!neg)) H):rEqD P w neg (.ref l) (.ref l') H Q:=by
  cases E.bv.same E'.bv
  have hv:∃ dv,DatV P w H v dv∧dv.canLay0=true∧dv.depth=0:=by
    rcases E.bv with ⟨rfl,_⟩ | ⟨m,rfl,_⟩
    · exact ⟨_,datN,rfl,rfl⟩
    · exact ⟨_,datI _,rfl,rfl⟩
  obtain ⟨dv,hd,hc,hp⟩:=hv
  refine L2.eq_self (datL E.ls (.cons E.fr.dat (.cons (datI _) (.cons (datI _) (.cons hd (.cons (datI _) .nil)))))) (datL E'.ls (.cons E'.fr.dat (.cons (datI _) (.cons (datI _) (.cons hd (.cons (datI _) .nil)))))) ?_ ?_ q
  · simp [PyData.canLay0,PyData.canLayAll0,hc,frD_lay]
  · have h1:(frD b ps ws).depth≤59:=by
      have:=frD_depth b ps ws
      simp only [frD,PyData.depth,PyData.depthAll] at this⊢
      have e1:∀ l:List Int,PyData.depthAll (l.map PyData.int)=0:=fun l=>by
        induction l with
        | nil=>rfl
        | cons x r ih=>simp [PyData.depthAll,PyData.depth,ih]
      rw [e1,e1]
      decide
    simp only [PyData.depth,PyData.depthAll,hp]
    lia
structure W7 (C:Addr) (H:Hp) (st kp dx sl sd tl:Addr) (as:List AF) (ls ts:List Addr) (b:Nat) (ps:List Nat) (wk wsd wtl:List (List Int)):Prop where
  S:Store H st
  K:KpAt C H kp dx sl as b ps wk
  ko:∀ x∈as,x.2.1≠st∧x.2.2≠st
  kn:as≠[]
  hsd:H sd=some (.lst (ls.map V.ref))
  sn:ls.length=wsd.length
  se:∀ (i:Nat) (l:Addr) (ws:List Int),ls[i]?=some l→wsd[i]?=some ws→EntS H st l b ps ws i
  htl:H tl=some (.lst (ts.map V.ref))
  tn:ts.length+1=wtl.length
  te:∀ (i:Nat) (t:Addr) (ws wz:List Int),ts[i]?=some t→wtl[i]?=some ws→wtl[i+1]?=some wz→H t=some (.tup [.int (evN b ps ws),.int (evN b ps wz)])
  n1:sl≠sd
  n2:sl≠tl
  n3:sd≠tl
section
variable {C:Addr} {H H':Hp} {st kp dx sl sd tl:Addr} {as:List AF} {ls ts:List Addr} {b:Nat} {ps:List Nat} {wk wsd wtl:List (List Int)}
theorem EntS.stay {l:Addr} {ws:List Int} {n:Nat} (E:EntS H st l b ps ws n) (s:Stay H H'):EntS H' st l b ps ws n:=let ⟨f,a,c,v,e,h⟩:=E;⟨f,a,c,v,e.stay s,h⟩
theorem KpAt.stay (K:KpAt C H kp dx sl as b ps wk) (s:Stay H H') (h:H' sl=H sl):KpAt C H' kp dx sl as b ps wk :=
  ⟨s _ _ K.ob nr_ins,by rw [h];exact K.ls,K.len,fun i x ws h1 h2=>(K.each i x ws h1 h2).stay s⟩
theorem W7.keep (W:W7 C H st kp dx sl sd tl as ls ts b ps wk wsd wtl) (s:Same H H'):W7 C H' st kp dx sl sd tl as ls ts b ps wk wsd wtl :=
  ⟨W.S.keep s,W.K.keep s,W.ko,W.kn,s _ _ W.hsd,W.sn,fun i l ws h1 h2=>(W.se i l ws h1 h2).stay (same_stay s),s _ _ W.htl,W.tn,fun i t ws wz h1 h2 h3=>s _ _ (W.te i t ws wz h1 h2 h3),W.n1,W.n2,W.n3⟩
theorem W7.kst (W:W7 C H st kp dx sl sd tl as ls ts b ps wk wsd wtl) (k:Kp [st] H H') (S':Store H' st):W7 C H' st kp dx sl sd tl as ls ts b ps wk wsd wtl:=by
  obtain ⟨g,c,j,e⟩:=id W.S
  have ne:∀ {y:Addr} {o:HO},H y=some o→(o≠.lst [.int g,.int c,.int j])→H' y=some o:=fun {y o} h n=>k y o h (fun z=>by
    rw [List.mem_singleton.mp z,e] at h
    exact n (Option.some.inj h).symm)
  have nref:∀ {l:List V},RefL l→HO.lst l≠.lst [.int g,.int c,.int j]:=fun r z=>by
    injection z with z
    obtain ⟨a,e⟩:=r (.int g) (by rw [z];simp)
    cases e
  refine ⟨S',⟨ne W.K.ob (by intro z;cases z),ne W.K.ls (nref (refs_map _ _)),W.K.len,fun i x ws h1 h2=>(W.K.each i x ws h1 h2).kps W.S (W.ko x (List.mem_of_getElem? h1)).1 (W.ko x (List.mem_of_getElem? h1)).2 k⟩,W.ko,W.kn,ne W.hsd (nref (refs_map id ls)),W.sn,fun i l ws h1 h2=>?_,ne W.htl (nref (refs_map id ts)),W.tn,fun i t ws wz h1 h2 h3=>ne (W.te i t ws wz h1 h2 h3) (by intro z;cases z),W.n1,W.n2,W.n3⟩
  obtain ⟨f,a,c',v,e1,h3,h4⟩:=W.se i l ws h1 h2
  exact ⟨f,a,c',v,e1.kst W.S k h3 h4,h3,h4⟩
theorem W7.keeper {as':List AF} {wk':List (List Int)} (W:W7 C H st kp dx sl sd tl as ls ts b ps wk wsd wtl) (k:Kp [sl] H H') (K':KpAt C H' kp dx sl as' b ps wk') (ko':∀ x∈as',x.2.1≠st∧x.2.2≠st) (kn':as'≠[]):W7 C H' st kp dx sl sd tl as' ls ts b ps wk' wsd wtl:=by
  have s:=k.stay W.K.ls (refs_map _ _)
  exact ⟨W.S.stay s,K',ko',kn',k _ _ W.hsd (by simpa using W.n1.symm),W.sn,fun i l ws h1 h2=>(W.se i l ws h1 h2).stay s,k _ _ W.htl (by simpa using W.n2.symm),W.tn,fun i t ws wz h1 h2 h3=>s _ _ (W.te i t ws wz h1 h2 h3) nr_tup,W.n1,W.n2,W.n3⟩
theorem upd_stay {y:Addr} {xs:List V} {o:HO} (hy:H y=some (.lst xs)) (hr:RefL xs):Stay H (upd H y o):=fun z o' e n=>by
  rw [upd_ne (fun q=>n xs (by rw [q,hy] at e;exact (Option.some.inj e).symm) hr)]
  exact e
theorem snoc_get {α:Type} {l:List α} {x y:α} {i:Nat} (h:(l++[x])[i]?=some y):(i<l.length∧l[i]?=some y)∨(i=l.length∧y=x):=by
  by_cases hi:i<l.length
  · rw [List.getElem?_append_left hi] at h;exact .inl ⟨hi,h⟩
  · have hl:=(List.getElem?_eq_some_iff.mp h).1
    rw [List.length_append,List.length_singleton] at hl
    have e:i=l.length:=by lia
    subst e
    rw [List.getElem?_append_right (Nat.le_refl _)] at h
    simp at h
    exact .inr ⟨rfl,h.symm⟩
theorem W7.tell {t:Addr} {ws wz:List Int} {ini:List (List Int)} (W:W7 C H st kp dx sl sd tl as ls ts b ps wk wsd (ini++[ws])) (ht:H t=some (.tup [.int (evN b ps ws),.int (evN b ps wz)])):W7 C (upd H tl (.lst (ts.map V.ref++[V.ref t]))) st kp dx sl sd tl as ls (ts++[t]) b ps wk wsd (ini++[ws]++[wz]):=by
  have s:=upd_stay (o:=.lst (ts.map V.ref++[V.ref t])) W.htl (refs_map id ts)
  refine ⟨W.S.stay s,W.K.stay s (upd_ne W.n2),W.ko,W.kn,by rw [upd_ne W.n3];exact W.hsd,W.sn,fun i l ws h1 h2=>(W.se i l ws h1 h2).stay s,by rw [upd_same,List.map_append];rfl,by have:=W.tn;simp at this⊢;lia,fun i u v vz h1 h2 h3=>?_,W.n1,W.n2,W.n3⟩
  have hn:=W.tn
  simp at hn
  rcases snoc_get h1 with ⟨hi,h1⟩ | ⟨rfl,rfl⟩
  · refine s _ _ (W.te i u v vz h1 ?_ ?_) nr_tup
    · rw [List.getElem?_append_left (by simp;lia)] at h2;exact h2
    · rw [List.getElem?_append_left (by simp;lia)] at h3;exact h3
  · rw [List.getElem?_append_left (by simp;lia),hn,List.getElem?_append_right (Nat.le_refl _)] at h2
    rw [hn,List.getElem?_append_right (by simp)] at h3
    simp at h2 h3
    subst h2;subst h3
    exact s _ _ ht nr_tup
theorem W7.stand {l:Addr} {wz:List Int} (W:W7 C H st kp dx sl sd tl as ls ts b ps wk wsd wtl) (E:EntS H st l b ps wz wsd.length):W7 C (upd H sd (.lst (ls.map V.ref++[V.ref l]))) st kp dx sl sd tl as (ls++[l]) ts b ps wk (wsd++[wz]) wtl:=by
  have s:=upd_stay (o:=.lst (ls.map V.ref++[V.ref l])) W.hsd (refs_map id ls)
  refine ⟨W.S.stay s,W.K.stay s (upd_ne W.n1),W.ko,W.kn,by rw [upd_same,List.map_append];rfl,by simp [W.sn],fun i m v h1 h2=>?_,by rw [upd_ne W.n3.symm];exact W.htl,W.tn,fun i t ws wz h1 h2 h3=>s _ _ (W.te i t ws wz h1 h2 h3) nr_tup,W.n1,W.n2,W.n3⟩
  rcases snoc_get h1 with ⟨hi,h1⟩ | ⟨rfl,rfl⟩
  · rw [List.getElem?_append_left (by rw [← W.sn];exact hi)] at h2
    exact (W.se i m v h1 h2).stay s
  · rw [W.sn,List.getElem?_append_right (Nat.le_refl _)] at h2
    simp at h2
    subst h2
    rw [W.sn]
    exact E.stay s
theorem W7.untell {t:Addr} {wz:List Int} {ini:List (List Int)} (W:W7 C H st kp dx sl sd tl as ls (ts++[t]) b ps wk wsd (ini++[wz])):W7 C (upd H tl (.lst (ts.map V.ref))) st kp dx sl sd tl as ls ts b ps wk wsd ini:=by
  have s:=upd_stay (o:=.lst (ts.map V.ref)) W.htl (refs_map id _)
  have hn:=W.tn
  simp at hn
  refine ⟨W.S.stay s,W.K.stay s (upd_ne W.n2),W.ko,W.kn,by rw [upd_ne W.n3];exact W.hsd,W.sn,fun i l ws h1 h2=>(W.se i l ws h1 h2).stay s,upd_same,by lia,fun i u v vz h1 h2 h3=>s _ _ (W.te i u v vz ?_ ?_ ?_) nr_tup,W.n1,W.n2,W.n3⟩
  · rw [List.getElem?_append_left (List.getElem?_eq_some_iff.mp h1).1];exact h1
  · rw [List.getElem?_append_left (List.getElem?_eq_some_iff.mp h2).1];exact h2
  · rw [List.getElem?_append_left (List.getElem?_eq_some_iff.mp h3).1];exact h3
theorem W7.unstand {l:Addr} {wz:List Int} {ini:List (List Int)} (W:W7 C H st kp dx sl sd tl as (ls++[l]) ts b ps wk (ini++[wz]) wtl):W7 C (upd H sd (.lst (ls.map V.ref))) st kp dx sl sd tl as ls ts b ps wk ini wtl:=by
  have s:=upd_stay (o:=.lst (ls.map V.ref)) W.hsd (refs_map id _)
  have hn:=W.sn
  simp at hn
  refine ⟨W.S.stay s,W.K.stay s (upd_ne W.n1),W.ko,W.kn,upd_same,hn,fun i m v h1 h2=>(W.se i m v ?_ ?_).stay s,by rw [upd_ne W.n3.symm];exact W.htl,W.tn,fun i t ws wz h1 h2 h3=>s _ _ (W.te i t ws wz h1 h2 h3) nr_tup,W.n1,W.n2,W.n3⟩
  · rw [List.getElem?_append_left (List.getElem?_eq_some_iff.mp h1).1];exact h1
  · rw [List.getElem?_append_left (List.getElem?_eq_some_iff.mp h2).1];exact h2
end
noncomputable def spAll (C:Addr):Sp:=fun vs H Q _=>∃ (kp dx sl:Addr) (as:List AF) (b:Nat) (ps:List Nat) (ini:List (List Int)) (ws:List Int),vs=[.ref kp]∧KpAt C H kp dx sl as b ps (ini++[ws])∧∀ (l f a c:Addr) (v:V) (H':Hp),Same H H'→Ent H' l f a c v b ps ws ini.length→H l=none→H f=none→H a=none→H c=none→Q (.ref l) H'
section
variable {P:Program} {w:World} {K:PySem.W.Frag} {mg:Str→Option Value} {base:Heap} {C:Addr}
theorem scCopy:FnScope ["frame"] ["frame"] (defScope sCopy):=⟨rfl,rfl,rfl,by decide +kernel,rfl,by decide +kernel,by decide +kernel⟩
theorem ok_copyl {f:Addr} {fd:FuncData} (F:Fun K "_law_copy" "_law_copy" sCopy f fd) (T:Txt mg):FnOk P w K mg base CX0 1 f fd ["frame"] spCopyK:=by
  refine F.ok scCopy (fun vs H Q E h=>?_) (fun cdv A outer s H vs Q E hr h=>?_)
  · obtain ⟨f,a,c,b,ps,ws,rfl,_⟩:=h;rfl
  · obtain ⟨f,a,c,b,ps,ws,rfl,G,k⟩:=h
    have nd:=scCopy.nd
    refine ⟨_,(pss_one (ps_ret (pe_tup (pa_cons (ixt (pv 0) pe_int) (pa_cons (pe_callTy call_list_of (by rfl) T.list boot_list (pa_cons (ixt (pv 0) pe_int) pa_nil)) (pa_cons (pe_callTy call_list_of (by rfl) T.list boot_list (pa_cons (ixt (pv 0) pe_int) pa_nil)) pa_nil)))))),?_⟩
    refine ⟨_,rfl,_,_,_,_,rfl,rfl,SqT.of G.tp,rfl,⟨_,rfl,_,_,_,_,rfl,rfl,SqT.of G.tp,rfl,⟨a,_,rfl,.inl (SqL.of G.hp),fun a' ha'=>?_⟩⟩⟩
    have s1:=same_upd (o:=.lst (natV ps)) ha'
    have u1:(upd H a' (.lst (natV ps))) a'=_:=upd_same
    generalize upd H a' (.lst (natV ps))=H1 at s1 u1⊢
    refine ⟨_,rfl,_,_,_,_,rfl,rfl,SqT.of (s1 _ _ G.tp),rfl,⟨c,_,rfl,.inl (SqL.of (s1 _ _ G.hw)),fun c' hc'=>⟨sz (by simp),fun f' hf'=>?_⟩⟩⟩
    have s2:=same_upd (o:=.lst (ws.map V.int)) hc'
    have s3:=same_upd (o:=.tup [.int b,.ref a',.ref c']) hf'
    exact k f' a' c' _ (s1.trans (s2.trans s3)) ⟨upd_same,s3 _ _ (s2 _ _ u1),s3 _ _ upd_same,G.ok⟩ (s1.free (s2.free hf')) ha' (s1.free hc') (fun z=>by rw [← z,u1] at hc';cases hc')
theorem scLawAll:FnScope ["keeper"] ["keeper"] (defScope sLawAll):=⟨rfl,rfl,rfl,by decide +kernel,rfl,by decide +kernel,by decide +kernel⟩
theorem ok_all {f:Addr} {fd:FuncData} (F:Fun K "_law_all" "_law_all" sLawAll f fd) (cl:Cls K C) (m_frame:MDef P w K mg base 2 C "frame" ["self"] (spFrameK C)) (m_near:MDef P w K mg base 7 C "near" ["self","d"] (spNearK C)) (m_even:MDef P w K mg base 14 C "even" ["self","k"] (spEvenK C)) (m_changes:MDef P w K mg base 1 C "changes" ["self"] (spChanges C)):FnOk P w K mg base CX0 15 f fd ["keeper"] (spAll C):=by
  refine F.ok scLawAll (fun vs H Q E h=>?_) (fun cdv A outer s H vs Q E hr h=>?_)
  · obtain ⟨kp,dx,sl,as,b,ps,ini,ws,rfl,_⟩:=h;rfl
  · obtain ⟨kp,dx,sl,as,b,ps,ini,ws,rfl,S,k⟩:=h
    have nd:=scLawAll.nd
    refine ⟨_,(pss_one (ps_ret (pe_lst (pa_cons (pe_mt0 cl m_frame (hr.mono (by decide)) (pv 0)) (pa_cons (pe_mt cl m_near (hr.mono (by decide)) (pv 0) (pa_cons pe_int pa_nil)) (pa_cons (pe_mt cl m_near (hr.mono (by decide)) (pv 0) (pa_cons pe_int pa_nil)) (pa_cons (pe_mt cl m_even hr (pv 0) (pa_cons pe_int pa_nil)) (pa_cons (pe_mt0 cl m_changes (hr.mono (by decide)) (pv 0)) pa_nil)))))))),?_⟩
    refine ⟨_,rfl,kp,dx,_,rfl,S.ob,stF_no (by decide +kernel),kp,dx,sl,as,b,ps,ini,ws,rfl,S,fun f' a' c' H1 s1 G1 nf na nc=>?_⟩
    have S1:=S.keep s1
    refine ⟨_,rfl,kp,dx,_,rfl,S1.ob,stF_no (by decide +kernel),kp,dx,sl,as,b,ps,ini,ws,0,rfl,S1,fun H2 s2=>?_⟩
    have S2:=S1.keep s2
    refine ⟨_,rfl,kp,dx,_,rfl,S2.ob,stF_no (by decide +kernel),kp,dx,sl,as,b,ps,ini,ws,2,rfl,S2,fun H3 s3=>?_⟩
    have S3:=S2.keep s3
    refine ⟨_,rfl,kp,dx,_,rfl,S3.ob,stF_no (by decide +kernel),kp,dx,sl,as,b,ps,ini,ws,3,rfl,S3,fun v H4 s4 hv=>?_⟩
    have S4:=S3.keep s4
    refine ⟨_,rfl,kp,dx,_,rfl,S4.ob,stF_no (by decide +kernel),kp,dx,sl,as,b,ps,_,rfl,S4,sz (by simp),fun l hl=>?_⟩
    rw [show (((ini++[ws]).length:Nat):Int) - 1=(ini.length:Int) by simp]
    have T4:=((s1.trans s2).trans s3).trans s4
    have s5:=same_upd (o:=.lst [.ref f',.int (evN b ps ws),.int (Mx.nrN b 2 ps ws (b ^ ps.sum)),v,.int (ini.length:Int)]) hl
    exact k l f' a' c' v _ (T4.trans s5) ⟨upd_same,G1.keep (((s2.trans s3).trans s4).trans s5),hv⟩ (T4.free hl) nf na nc
end
end Hv
namespace Hv
open PySem L2
theorem Kp.wid {x:List Addr} {y:List Addr} {H H':Hp} (k:Kp x H H') (h:∀ a∈x,a∈y):Kp y H H':=fun b o e n=>k b o e fun z=>n (h b z)
theorem kp_at {H:Hp} {y:Addr} {o:HO}:Kp [y] H (upd H y o):=fun z o' e n=>by rw [upd_ne (fun q=>n (by rw [q];exact List.mem_singleton.mpr rfl))];exact e
theorem two_last {α:Type} {l:List α} (h:2≤l.length):∃ ini x y,l=ini++[x]++[y]:=by
  have h1:l≠[]:=fun z=>by rw [z] at h;simp at h
  have e:=List.dropLast_concat_getLast h1
  have h2:l.dropLast≠[]:=fun z=>by
    have:=congrArg List.length z
    simp at this
    lia
  have e2:=List.dropLast_concat_getLast h2
  exact ⟨l.dropLast.dropLast,l.dropLast.getLast h2,l.getLast h1,by rw [e2,e]⟩
theorem one_last {α:Type} {l:List α} (h:1≤l.length):∃ ini x,l=ini++[x]:=by
  have h1:l≠[]:=fun z=>by rw [z] at h;simp at h
  exact ⟨l.dropLast,l.getLast h1,(List.dropLast_concat_getLast h1).symm⟩
theorem take_pred {α:Type} {l ini:List α} {x y:α} {n:Nat} (hn:n≤l.length) (e:l.take n=ini++[x]++[y]):l.take (n - 1)=ini++[x]:=by
  have h1:(l.take n).dropLast=ini++[x]:=by rw [e];simp
  rw [← h1,List.dropLast_eq_take,List.take_take,List.length_take]
  congr 1
  lia
theorem last_refs {ts:List Addr} {t:Addr}:atI ((ts++[t]).map V.ref) (-1)=some (V.ref t):=by rw [List.map_append];exact atI_last _ _
theorem pop_refs {ts:List Addr} {t:Addr}:((ts++[t]).map V.ref)[((ts++[t]).map V.ref).length - 1]?=some (V.ref t)∧((ts++[t]).map V.ref).dropLast=ts.map V.ref:=by simp
noncomputable def spChanged (C:Addr):Sp:=fun vs H Q _=>∃ (st kp dx sl sd tl:Addr) (as:List AF) (ls ts:List Addr) (b:Nat) (ps:List Nat) (ini:List (List Int)) (ws:List Int),vs=[.ref st,.ref kp,.ref sd,.ref tl]∧W7 C H st kp dx sl sd tl as ls ts b ps (ini++[ws]) (ini++[ws]) (ini++[ws])∧ini.length≤900∧
  ∀ (as':List AF) (ls' ts':List Addr) (wz:List Int) (H':Hp),W7 C H' st kp dx sl sd tl as' ls' ts' b ps (ini++[ws]++[wz]) (ini++[ws]++[wz]) (ini++[ws]++[wz])→Kp [st,sl,sd,tl] H H'→Q .non H'
noncomputable def spUndone (C:Addr):Sp:=fun vs H Q _=>∃ (st kp dx sl sd tl:Addr) (as:List AF) (ls ts:List Addr) (b:Nat) (ps:List Nat) (wss:List (List Int)) (m:Nat),vs=[.ref kp,.ref sd,.ref tl,.int m]∧W7 C H st kp dx sl sd tl as ls ts b ps wss wss wss∧m<wss.length∧wss.length≤900∧
  ∀ (as':List AF) (ls' ts':List Addr) (H':Hp),W7 C H' st kp dx sl sd tl as' ls' ts' b ps (wss.take (wss.length - m)) (wss.take (wss.length - m)) (wss.take (wss.length - m))→Kp [sl,sd,tl] H H'→Q (.bl true) H'
section
variable {P:Program} {w:World} {K:PySem.W.Frag} {mg:Str→Option Value} {base:Heap} {C:Addr}
theorem scLawChanged:FnScope ["store","keeper","stood","told","weights","place","weight"] ["store","keeper","stood","told"] (defScope sLawChanged):=⟨rfl,rfl,rfl,by decide +kernel,rfl,by decide +kernel,by decide +kernel⟩
theorem ok_changed {f:Addr} {fd:FuncData} (F:Fun K "_law_changed" "_law_changed" sLawChanged f fd) (T:Txt mg) (d_law_take:Def P w K mg base 1 "_law_take" ["store","many"] spTake) (d_law_all:Def P w K mg base 15 "_law_all" ["keeper"] (spAll C)) (cl:Cls K C) (m_frame:MDef P w K mg base 2 C "frame" ["self"] (spFrameK C)) (m_weigh:MDef P w K mg base 8 C "weigh" ["self","place","weight"] (spWeigh C)):FnOk P w K mg base CX0 16 f fd ["store","keeper","stood","told"] (spChanged C):=by
  refine F.ok scLawChanged (fun vs H Q E h=>?_) (fun cdv A outer s H vs Q E hr h=>?_)
  · obtain ⟨st,kp,dx,sl,sd,tl,as,ls,ts,b,ps,ini,ws,rfl,_⟩:=h;rfl
  · obtain ⟨st,kp,dx,sl,sd,tl,as,ls,ts,b,ps,ini,ws,rfl,W,hl,k⟩:=h
    have nd:=scLawChanged.nd
    refine ⟨_,(pss_cons (ps_set (i:=4) nd rfl (Or.inl rfl) (ixt (pe_mt0 cl m_frame (hr.mono (by decide)) (pv 1)) pe_int))
      (pss_cons (ps_set (i:=5) nd rfl (Or.inl rfl) (pe_fn d_law_take (hr.mono (by decide)) (by rfl) (pa_cons (pv 0) (pa_cons (lenS T.len (by rfl) (pv 4)) pa_nil))))
      (pss_cons (ps_set (i:=6) nd rfl (Or.inl rfl) (ixl (pe_lst (pa_cons (pe_op op_sub (pe_fn d_law_take (hr.mono (by decide)) (by rfl) (pa_cons (pv 0) (pa_cons pe_int pa_nil))) pe_int) (pa_cons (pe_op op_sub (pe_fn d_law_take (hr.mono (by decide)) (by rfl) (pa_cons (pv 0) (pa_cons pe_int pa_nil))) pe_int) (pa_cons (ixl (pv 4) (pv 5)) pa_nil)))) (pe_fn d_law_take (hr.mono (by decide)) (by rfl) (pa_cons (pv 0) (pa_cons pe_int pa_nil)))))
      (pss_cons (ps_expr (pe_bm PySem.F.plainAttrs_list PySem.F.slot_list_append PySem.F.type_list_append mt_append (pv 3) (pa_cons (pe_mt cl m_weigh (hr.mono (by decide)) (pv 1) (pa_cons (pv 5) (pa_cons (pv 6) pa_nil))) pa_nil)))
      (pss_one (ps_expr (pe_bm PySem.F.plainAttrs_list PySem.F.slot_list_append PySem.F.type_list_append mt_append (pv 2) (pa_cons (pe_fn d_law_all hr (by rfl) (pa_cons (pv 1) pa_nil)) pa_nil)))))))),?_⟩
    refine ⟨_,rfl,kp,dx,_,rfl,W.K.ob,stF_no (by decide +kernel),kp,dx,sl,as,b,ps,ini,ws,rfl,W.K,fun f' a' c' H1 s1 G1 nf na nc=>⟨_,_,_,_,rfl,rfl,SqT.of G1.tp,rfl,?_⟩⟩
    have W1:=W.keep s1
    have ncs:c'≠st:=W.S.off nc
    have hwl:=G1.ok.wl
    have hsm:=G1.ok.sum
    refine ⟨_,rfl,_,rfl,c',_,rfl,.inl (SqL.of G1.hw),st,_,rfl,W1.S,by rw [List.length_map];lia,by rw [List.length_map];lia,fun r H2 r0 r1 E2 k2=>?_⟩
    rw [List.length_map] at r1
    have W2:=W1.kst k2 E2
    have hw2:H2 c'=some (.lst (ws.map V.int)):=k2 _ _ G1.hw (by simpa using ncs)
    obtain ⟨p,rfl⟩:∃ p:Nat,r=(p:Int):=⟨r.toNat,by lia⟩
    have hp:p<ws.length:=by lia
    obtain ⟨x,hx⟩:∃ x,ws[p]?=some x:=⟨_,List.getElem?_eq_getElem hp⟩
    have hxr:=G1.ok.wr x (List.mem_of_getElem? hx)
    have ex:atI (ws.map V.int) (p:Int)=some (V.int x):=atI_nat (by rw [List.getElem?_map,hx];rfl)
    refine ⟨_,rfl,st,19,rfl,E2,by decide,by decide,fun r1 H3 r10 r11 E3 k3=>⟨_,_,rfl,rfl,_,rfl,st,19,rfl,E3,by decide,by decide,fun r2 H4 r20 r21 E4 k4=>⟨_,_,rfl,rfl,_,rfl,_,rfl,r_ixl (k4 _ _ (k3 _ _ hw2 (by simpa using ncs)) (by simpa using ncs)) ex ⟨sz (by simp),fun l hl'=>?_⟩⟩⟩⟩
    have k24:=k3.trans k4
    have W4:=W2.kst k24 E4
    have t5:=same_upd (o:=.lst ([r1 - 9,r2 - 9,x].map V.int)) hl'
    have u5:(upd H4 l (.lst ([r1 - 9,r2 - 9,x].map V.int))) l=_:=upd_same
    have nls:l≠st:=E4.off hl'
    have W5:=W4.keep t5
    have K5:Kp [st] H (upd H4 l (.lst ([r1 - 9,r2 - 9,x].map V.int))):=(((Kp.of s1).trans k2).trans k24).same t5
    have e5:upd H4 l (.lst [V.int (r1 - 9),V.int (r2 - 9),V.int x])=upd H4 l (.lst ([r1 - 9,r2 - 9,x].map V.int)):=rfl
    rw [e5]
    generalize upd H4 l (.lst ([r1 - 9,r2 - 9,x].map V.int))=H5 at t5 u5 W5 K5⊢
    refine ⟨_,rfl,st,3,rfl,W5.S,by decide,by decide,fun r3 H6 r30 r31 E6 k6=>?_⟩
    obtain ⟨wt,ewt,hwt⟩:=at_ints (ns:=[r1 - 9,r2 - 9,x]) (i:=r3) (Pr:=fun n => -9≤n∧n≤9) r30 r31 (by
      intro y hy
      simp only [List.mem_cons,List.not_mem_nil,or_false] at hy
      rcases hy with rfl | rfl | rfl <;> lia)
    refine r_ixl (k6 _ _ u5 (by simpa using nls)) ewt ?_
    have W6:=W5.kst k6 E6
    have K6:=K5.trans k6
    -- told.append
    refine ⟨_,rfl,.inl ⟨rfl,_,SqL.of W6.htl⟩,_,rfl,kp,dx,_,rfl,W6.K.ob,stF_no (by decide +kernel),_,rfl,_,rfl,kp,dx,sl,as,b,ps,ini,ws,p,wt,rfl,W6.K,hp,hwt.1,hwt.2,by lia,fun t xn H7 nt ht nx1 nx2 nx3 K7 k7=>?_⟩
    have W7':=W6.keeper k7 K7 (fun y hy=>by
      rcases List.mem_append.mp hy with h | h
      · exact W6.ko y h
      · rw [List.mem_singleton.mp h];exact ⟨W6.S.off nx2,W6.S.off nx3⟩) (by simp)
    have hts:ts.length=ini.length:=by have:=W.tn;simp at this;lia
    refine ⟨tl,_,_,rfl,rfl,W7'.htl,szl (by rw [List.length_map];lia),?_⟩
    have W8:=W7'.tell ht
    have k8:Kp [tl] H7 (upd H7 tl (.lst (ts.map V.ref++[V.ref t]))):=kp_at
    generalize upd H7 tl (.lst (ts.map V.ref++[V.ref t]))=H8 at W8 k8⊢
    -- stood.append
    refine ⟨_,rfl,.inl ⟨rfl,_,SqL.of W8.hsd⟩,_,rfl,kp,dx,sl,_,b,ps,ini++[ws],ws.set p wt,rfl,W8.K,fun m f a c v H9 s9 En nm nf9 na9 nc9=>?_⟩
    have W9:=W8.keep s9
    have hls:ls.length=ini.length+1:=by have:=W.sn;simp at this;lia
    refine ⟨sd,_,_,rfl,rfl,W9.hsd,szl (by rw [List.length_map];lia),?_⟩
    have W10:=W9.stand (l:=m) (wz:=ws.set p wt) ⟨f,a,c,v,by simpa using En,W8.S.off na9,W8.S.off nc9⟩
    refine k _ _ _ _ _ W10 ?_
    have q1:∀ a∈[st],a∈[st,sl,sd,tl]:=by simp
    have q2:∀ a∈[sl],a∈[st,sl,sd,tl]:=by simp
    have q3:∀ a∈[tl],a∈[st,sl,sd,tl]:=by simp
    have q4:∀ a∈[sd],a∈[st,sl,sd,tl]:=by simp
    exact ((((K6.wid q1).trans (k7.wid q2)).trans (k8.wid q3)).same s9).trans (kp_at.wid q4)
theorem scLawUndoneRight:FnScope ["keeper","stood","told","many","turn"] ["keeper","stood","told","many"] (defScope sLawUndoneRight):=⟨rfl,rfl,rfl,by decide +kernel,rfl,by decide +kernel,by decide +kernel⟩
theorem ok_undone {f:Addr} {fd:FuncData} (F:Fun K "_law_undone_right" "_law_undone_right" sLawUndoneRight f fd) (T:Txt mg) (d_law_all:Def P w K mg base 15 "_law_all" ["keeper"] (spAll C)) (cl:Cls K C) (m_undo:MDef P w K mg base 8 C "undo" ["self"] (spUndo C)):FnOk P w K mg base CX0 16 f fd ["keeper","stood","told","many"] (spUndone C):=by
  refine F.ok scLawUndoneRight (fun vs H Q E h=>?_) (fun cdv A outer s H vs Q E hr h=>?_)
  · obtain ⟨st,kp,dx,sl,sd,tl,as,ls,ts,b,ps,wss,m,rfl,_⟩:=h;rfl
  · obtain ⟨st,kp,dx,sl,sd,tl,as,ls,ts,b,ps,wss,m,rfl,W,hm,hl,k⟩:=h
    have nd:=scLawUndoneRight.nd
    refine ⟨_,(pss_cons (ps_for PassesOwn.never rfl (pi_range1 (by rfl) T.range (pa_cons (pv 3) pa_nil)) (pg_name (i:=4) nd rfl (Or.inl rfl))
        (pss_cons (ps_if (pt_cmpR (op_neDP P w rfl rfl hr.units) (pe_mt0 cl m_undo (hr.mono (by decide)) (pv 0)) (pe_srevT (ixl (pv 2) (pe_un un_neg pe_int)) (pe_un un_neg pe_int)) (nomark _)) (pss_one (ps_ret pe_bl)) pss_nil)
        (pss_cons (ps_expr (pe_bm0 PySem.F.plainAttrs_list PySem.F.slot_list_pop PySem.F.type_list_pop mt_pop (pv 2)))
        (pss_cons (ps_expr (pe_bm0 PySem.F.plainAttrs_list PySem.F.slot_list_pop PySem.F.type_list_pop mt_pop (pv 1)))
        (pss_one (ps_if (pt_cmpR (op_neDP P w rfl rfl hr.units) (pe_fn d_law_all hr (by rfl) (pa_cons (pv 0) pa_nil)) (ixl (pv 1) (pe_un un_neg pe_int)) (nomark _)) (pss_one (ps_ret pe_bl)) pss_nil))))))
      (pss_one (ps_ret pe_bl))),?_⟩
    refine ⟨_,rfl,_,rfl,by lia,by lia,for_range (n:=(m:Int).toNat) (fun i σ H'=>∃ v4 as' ls' ts',σ=[some (.ref kp),some (.ref sd),some (.ref tl),some (.int (m:Int)),v4]∧W7 C H' st kp dx sl sd tl as' ls' ts' b ps (wss.take (wss.length - i)) (wss.take (wss.length - i)) (wss.take (wss.length - i))∧Kp [sl,sd,tl] H H') ⟨none,as,ls,ts,rfl,by simpa using W,Kp.refl⟩ ?_ ?_⟩
    · rintro i σ H1 hi ⟨v4,as,ls,ts,rfl,W1,k1⟩
      have hi':i<m:=by simpa using hi
      have hlen:(wss.take (wss.length - i)).length=wss.length - i:=by rw [List.length_take];lia
      obtain ⟨ini,ws,wz,e⟩:=two_last (l:=wss.take (wss.length - i)) (by lia)
      have e':wss.take (wss.length - (i+1))=ini++[ws]:=by
        rw [← take_pred (by lia) e]
        congr 1
      rw [e']
      rw [e] at W1 hlen
      simp only [List.length_append,List.length_singleton] at hlen
      have hla:as.length=ini.length+2:=by have:=W1.K.len;simp at this;lia
      have hll:ls.length=ini.length+2:=by have:=W1.sn;simp at this;lia
      have hlt:ts.length=ini.length+1:=by have:=W1.tn;simp at this;lia
      obtain ⟨ai,x,rfl⟩:=one_last (l:=as) (by lia)
      obtain ⟨lj,l1,l0,rfl⟩:=two_last (l:=ls) (by lia)
      obtain ⟨tj,t0,rfl⟩:=one_last (l:=ts) (by lia)
      simp only [List.length_append,List.length_singleton] at hla hll hlt
      have ht0:H1 t0=some (.tup [.int (evN b ps ws),.int (evN b ps wz)]):=by
        refine W1.te tj.length t0 ws wz (by simp) ?_ ?_
        · rw [show tj.length=ini.length by lia,List.append_assoc,List.getElem?_append_right (Nat.le_refl _)];simp
        · rw [show tj.length+1=(ini++[ws]).length by simp;lia,List.getElem?_append_right (Nat.le_refl _)];simp
      refine ⟨_,rfl,kp,dx,_,rfl,W1.K.ob,stF_no (by decide +kernel),kp,dx,sl,ai,x,b,ps,ini,ws,wz,rfl,W1.K,by lia,fun t H2 nt ht K2 k2=>?_⟩
      have W2:=W1.keeper k2 K2 (fun y hy=>W1.ko y (List.mem_append_left _ hy)) (fun z=>by rw [z] at hla;simp at hla)
      have ht0':H2 t0=some (.tup [.int (evN b ps ws),.int (evN b ps wz)]):=(k2.stay W1.K.ls (refs_map _ _)) _ _ ht0 nr_tup
      refine ⟨_,rfl,_,rfl,r_ixl W2.htl last_refs ⟨1,rfl,rfl,t0,_,_,rfl,SqT.of ht0',fun q hq=>?_⟩⟩
      have s3:=same_upd (o:=.tup [.int (evN b ps wz),.int (evN b ps ws)]) hq
      refine L2.eq_self (datT (s3 _ _ ht) (.cons (datI _) (.cons (datI _) .nil))) (datT upd_same (.cons (datI _) (.cons (datI _) .nil))) rfl (by simp [PyData.depth,PyData.depthAll]) ⟨_,rfl,iteF ?_⟩
      have W3:=W2.keep s3
      generalize upd H2 q (.tup [.int (evN b ps wz),.int (evN b ps ws)])=H3 at s3 W3⊢
      -- told.pop(), stood.pop()
      refine ⟨_,rfl,.inl ⟨rfl,_,SqL.of W3.htl⟩,tl,_,_,rfl,rfl,W3.htl,pop_refs.1,?_⟩
      rw [pop_refs.2]
      have W4:=W3.untell
      have k4:Kp [tl] H3 (upd H3 tl (.lst (tj.map V.ref))):=kp_at
      generalize upd H3 tl (.lst (tj.map V.ref))=H4 at W4 k4⊢
      refine ⟨_,rfl,.inl ⟨rfl,_,SqL.of W4.hsd⟩,sd,_,_,rfl,rfl,W4.hsd,pop_refs.1,?_⟩
      rw [pop_refs.2]
      have W5:=W4.unstand
      have k5:Kp [sd] H4 (upd H4 sd (.lst ((lj++[l1]).map V.ref))):=kp_at
      generalize upd H4 sd (.lst ((lj++[l1]).map V.ref))=H5 at W5 k5⊢
      refine ⟨_,rfl,kp,dx,sl,ai,b,ps,ini,ws,rfl,W5.K,fun mm f a c v H6 s6 E6 _ _ _ _=>?_⟩
      have W6:=W5.keep s6
      obtain ⟨f',a',c',v',E',_,_⟩:=W6.se lj.length l1 ws (by simp) (by rw [show lj.length=ini.length by lia,List.getElem?_append_right (Nat.le_refl _)];simp)
      refine ⟨_,rfl,_,rfl,r_ixl W6.hsd last_refs (ent_eq E6 (by rw [show lj.length=ini.length by lia] at E';exact E') ⟨_,rfl,iteF ?_⟩)⟩
      have q2:∀ a∈[sl],a∈[sl,sd,tl]:=by simp
      have q3:∀ a∈[tl],a∈[sl,sd,tl]:=by simp
      have q4:∀ a∈[sd],a∈[sl,sd,tl]:=by simp
      exact ⟨_,_,_,_,rfl,W6,(((((k1.trans (k2.wid q2)).same s3).trans (k4.wid q3)).trans (k5.wid q4)).same s6)⟩
    · rintro σ H1 ⟨v4,as,ls,ts,rfl,W1,k1⟩
      exact k as ls ts H1 (by simpa using W1) k1
end
end Hv
namespace L2
open PySem PySem.Spec PyProof.Rows
section
variable {X:Cx} {e a b:Expr} {te ta tb:TE}
theorem op_eqDP (P:Program) (w:World) (hP:X.prog=P) (hw:X.w=w) (hu:X.A.units+64<cLine):OpR X (compareOp .Eq) (rEqD P w false):=by
  subst hP hw
  exact op_eqD hu
end
end L2
namespace Hv
open PySem L2
theorem made_same {H1 H2:Hp} {kp dx:Addr} {o1 o2:HO} (nk:H1 kp=none) (nd:H1 dx=none) (k2:Kp [kp] (upd (upd H1 dx o1) kp o2) H2):Same H1 H2:=fun y o e=>by
  have n1:y≠kp:=fun z=>by rw [z,nk] at e;cases e
  have n2:y≠dx:=fun z=>by rw [z,nd] at e;cases e
  exact k2 y o (by rw [upd_ne n1,upd_ne n2];exact e) (by simpa using n1)
theorem made_free {H1:Hp} {kp dx y:Addr} {o1 o2:HO} (nk:H1 kp=none) (nd:H1 dx=none) (h:(upd (upd H1 dx o1) kp o2) y=none):H1 y=none:=by
  by_cases n1:y=kp
  · rw [n1];exact nk
  · by_cases n2:y=dx
    · rw [n2];exact nd
    · rw [upd_ne n1,upd_ne n2] at h;exact h
theorem mk_read {C f' a' c' kp dx:Addr} {b:Nat} {ps:List Nat} {ws:List Int} {H1:Hp} {R:Hp→Prop} {E:XK} (G1:FrAt H1 f' a' c' b ps ws) (nk:H1 kp=none) (nd:H1 dx=none)
    (k:∀ (sl:Addr) (x:AF) (H2:Hp),Same H1 H2→KpAt C H2 kp dx sl [x] b ps [ws]→H1 sl=none→H1 x.2.1=none→H1 x.2.2=none→R H2) :
    spInit C [.ref kp,.ref f'] (upd (upd H1 dx (.own kp)) kp (.ins C dx [])) (fun v H2=>v=.non∧R H2) E:=by
  have s1:Same H1 (upd (upd H1 dx (.own kp)) kp (.ins C dx [])):=fun y o e=>by
    rw [upd_ne (fun z=>by rw [z,nk] at e;cases e),upd_ne (fun z=>by rw [z,nd] at e;cases e)];exact e
  refine ⟨kp,dx,f',a',c',b,ps,ws,rfl,upd_same,G1.keep s1,fun sl x H2 n1 n2 n3 n4 K2 k2=>⟨rfl,k sl x H2 (made_same nk nd k2) K2 (made_free nk nd n1) (made_free nk nd n3) (made_free nk nd n4)⟩⟩
noncomputable def mixN (ws:List Int) (i:Nat):List Int:=negs (ws.take i)++ws.drop i
theorem mix_zero (ws:List Int):mixN ws 0=ws:=by simp [mixN,negs]
theorem mix_all (ws:List Int):mixN ws ws.length=negs ws:=by simp [mixN]
theorem mix_len (ws:List Int) (i:Nat):(mixN ws i).length=ws.length:=by simp [mixN,negs];lia
theorem mix_step {ws:List Int} {i:Nat} {x:Int} (h:ws[i]?=some x):(mixN ws i).set i (0 - x)=mixN ws (i+1):=by
  have hi:=(List.getElem?_eq_some_iff.mp h).1
  have hx:=(List.getElem?_eq_some_iff.mp h).2
  unfold mixN negs
  rw [List.set_append_right _ _ (by simp;lia)]
  have e1:i - ((ws.take i).map fun x => -x).length=0:=by simp;lia
  rw [e1,List.drop_eq_getElem_cons hi,List.set_cons_zero,List.take_add_one,h]
  simp
theorem byv_negs {b:Nat} {ps:List Nat} {ws:List Int} {k:Nat} {v:V} (lp:0<ps.length) (h:ByV b 0 ps (negs ws) k v):ByV b 0 ps ws k v:=by
  rcases h with ⟨e,h⟩ | ⟨m,e,h1,h2,h3⟩
  · exact .inl ⟨e,by rw [← Mx.nrN_negs lp];exact h⟩
  · exact .inr ⟨m,e,h1,by rw [← Mx.nrI_negs lp];exact h2,by rw [← Mx.nrN_negs lp];exact h3⟩
theorem dat_any {P:Program} {w:World} {H H':Hp} {b d:Nat} {ps:List Nat} {ws:List Int} {k:Nat} {v:V} (h:ByV b d ps ws k v):∃ dv,(∀ H:Hp,DatV P w H v dv)∧dv.canLay0=true∧dv.depth=0:=by
  rcases h with ⟨rfl,_⟩ | ⟨m,rfl,_⟩
  · exact ⟨_,fun _=>datN,rfl,rfl⟩
  · exact ⟨_,fun _=>datI _,rfl,rfl⟩
noncomputable def spSignsR:Sp:=fun vs H Q _=>∃ (f a c:Addr) (b:Nat) (ps:List Nat) (ws:List Int),vs=[.ref f]∧FrAt H f a c b ps ws∧∀ H',Same H H'→Q (.bl true) H'
noncomputable def spLongR:Sp:=fun vs H Q _=>∃ (st f a c:Addr) (b:Nat) (ps:List Nat) (ws:List Int),vs=[.ref st,.ref f]∧Store H st∧FrAt H f a c b ps ws∧a≠st∧c≠st∧∀ H',Store H' st→Kp [st] H H'→Q (.bl true) H'
section
variable {P:Program} {w:World} {K:PySem.W.Frag} {mg:Str→Option Value} {base:Heap} {C:Addr}
theorem scLawSignsRight:FnScope ["frame","keeper","early","place","weight"] ["frame"] (defScope sLawSignsRight):=⟨rfl,rfl,rfl,by decide +kernel,rfl,by decide +kernel,by decide +kernel⟩
theorem ok_signsr {f:Addr} {fd:FuncData} (F:Fun K "_law_signs_right" "_law_signs_right" sLawSignsRight f fd) (T:Txt mg) (d_law_copy:Def P w K mg base 1 "_law_copy" ["frame"] spCopyK) (cl:Cls K C) (m_near:MDef P w K mg base 7 C "near" ["self","d"] (spNearK C)) (m_even:MDef P w K mg base 14 C "even" ["self","k"] (spEvenK C)) (m_weigh:MDef P w K mg base 8 C "weigh" ["self","place","weight"] (spWeigh C)) (k_Keeper:CDef P w K mg base 6 "Keeper" C ["self","frame"] (spInit C)):FnOk P w K mg base CX0 15 f fd ["frame"] spSignsR:=by
  refine F.ok scLawSignsRight (fun vs H Q E h=>?_) (fun cdv A outer s H vs Q E hr h=>?_)
  · obtain ⟨f,a,c,b,ps,ws,rfl,_⟩:=h;rfl
  · obtain ⟨f,a,c,b,ps,ws,rfl,G,k⟩:=h
    have nd:=scLawSignsRight.nd
    refine ⟨_,(pss_cons (ps_set (i:=1) nd rfl (Or.inl rfl) (pe_mk k_Keeper (hr.mono (by decide)) (by rfl) (pa_cons (pe_fn d_law_copy (hr.mono (by decide)) (by rfl) (pa_cons (pv 0) pa_nil)) pa_nil)))
      (pss_cons (ps_set (i:=2) nd rfl (Or.inl rfl) (pe_lst (pa_cons (pe_mt cl m_near (hr.mono (by decide)) (pv 1) (pa_cons pe_int pa_nil)) (pa_cons (pe_mt cl m_near (hr.mono (by decide)) (pv 1) (pa_cons pe_int pa_nil)) (pa_cons (pe_mt cl m_even hr (pv 1) (pa_cons pe_int pa_nil)) pa_nil)))))
      (pss_cons (ps_for PassesOwn.never rfl (pi_enum (by rfl) T.enum (ixt (pv 0) pe_int)) (pg_tup rfl (pgs_cons (pg_name (i:=3) nd rfl (Or.inl rfl)) (pgs_cons (pg_name (i:=4) nd rfl (Or.inl rfl)) pgs_nil)))
        (pss_one (ps_expr (pe_mt cl m_weigh (hr.mono (by decide)) (pv 1) (pa_cons (pv 3) (pa_cons (pe_op op_sub pe_int (pv 4)) pa_nil))))))
      (pss_one (ps_ret (pe_cmpR (op_eqDP P w rfl rfl hr.units) (pe_lst (pa_cons (pe_mt cl m_near (hr.mono (by decide)) (pv 1) (pa_cons pe_int pa_nil)) (pa_cons (pe_mt cl m_near (hr.mono (by decide)) (pv 1) (pa_cons pe_int pa_nil)) (pa_cons (pe_mt cl m_even hr (pv 1) (pa_cons pe_int pa_nil)) pa_nil)))) (pv 2) (nomark _))))))),?_⟩
    have ok:=G.ok
    have hwl:=ok.wl
    have hsm:=ok.sum
    have lp:0<ps.length:=by have:=ok.l2;lia
    refine ⟨_,rfl,f,a,c,b,ps,ws,rfl,G,fun f' a' c' H1 s1 G1 nf na nc _=>fun kp dx nk nd hne=>mk_read G1 nk nd fun sl x H2 s2 K2 nsl nx1 nx2=>?_⟩
    have S2:=s1.trans s2
    refine ⟨_,rfl,kp,dx,_,rfl,K2.ob,stF_no (by decide +kernel),kp,dx,sl,[x],b,ps,[],ws,0,rfl,K2,fun H3 s3=>?_⟩
    have K3:=K2.keep s3
    refine ⟨_,rfl,kp,dx,_,rfl,K3.ob,stF_no (by decide +kernel),kp,dx,sl,[x],b,ps,[],ws,2,rfl,K3,fun H4 s4=>?_⟩
    have K4:=K3.keep s4
    refine ⟨_,rfl,kp,dx,_,rfl,K4.ob,stF_no (by decide +kernel),kp,dx,sl,[x],b,ps,[],ws,5,rfl,K4,fun v H5 s5 hv=>⟨sz (by simp),fun l hl=>?_⟩⟩
    have s6:=same_upd (o:=.lst [.int (Mx.nrN b 0 ps ws (b ^ ps.sum)),.int (Mx.nrN b 2 ps ws (b ^ ps.sum)),v]) hl
    have u6:(upd H5 l (.lst [.int (Mx.nrN b 0 ps ws (b ^ ps.sum)),.int (Mx.nrN b 2 ps ws (b ^ ps.sum)),v])) l=_:=upd_same
    generalize upd H5 l (.lst [.int (Mx.nrN b 0 ps ws (b ^ ps.sum)),.int (Mx.nrN b 2 ps ws (b ^ ps.sum)),v])=H6 at s6 u6⊢
    have S6:=(((S2.trans s3).trans s4).trans s5).trans s6
    have K6:=K4.keep (s5.trans s6)
    have hsl:H sl=none:=s1.free nsl
    have G6:=G.keep S6
    refine ⟨_,rfl,_,_,_,_,rfl,rfl,SqT.of G6.tp,rfl,c,rfl,⟨_,SqL.of G6.hw⟩,for_enum (K:=K) (a:=c) (xs:=ws.map V.int) (fun i σ H'=>∃ v3 v4 as ini,σ=[some (.ref f),some (.ref kp),some (.ref l),v3,v4]∧KpAt C H' kp dx sl as b ps (ini++[mixN ws i])∧ini.length=i∧Kp [sl] H6 H')
      ⟨none,none,[x],[],rfl,by rw [mix_zero];exact K6,rfl,Kp.refl⟩ (fun i σ H' _ h=>by
        obtain ⟨_,_,_,_,_,_,_,z⟩:=h
        exact SqL.of ((same_kp S6 hsl z) _ _ G.hw)) ?_ ?_⟩
    · rintro i y σ H7 t hy ⟨v3,v4,as,ini,rfl,K7,hi,k7⟩ ht
      obtain ⟨wv,hwv,rfl⟩:∃ wv,ws[i]?=some wv∧y=V.int wv:=by
        rw [List.getElem?_map] at hy
        cases h:ws[i]? with
        | none=>rw [h] at hy;cases hy
        | some wv=>rw [h] at hy;exact ⟨wv,rfl,(Option.some.inj hy).symm⟩
      have hlt:=(List.getElem?_eq_some_iff.mp hwv).1
      have hwr:=ok.wr wv (List.mem_of_getElem? hwv)
      have s8:=same_upd (o:=.tup [.int (i:Int),.int wv]) ht
      have K8:=K7.keep s8
      refine ⟨t,_,rfl,SqT.of upd_same,rfl,_,_,rfl,_,_,rfl,rfl,?_⟩
      refine ⟨_,rfl,kp,dx,_,rfl,K8.ob,stF_no (by decide +kernel),_,rfl,_,rfl,_,_,rfl,rfl,kp,dx,sl,as,b,ps,ini,mixN ws i,i,0 - wv,rfl,K8,by rw [mix_len];exact hlt,by lia,by lia,by lia,fun t2 x2 H9 _ _ _ _ _ K9 k9=>?_⟩
      rw [mix_step hwv] at K9
      exact ⟨_,_,_,ini++[mixN ws i],rfl,K9,by simp [hi],(k7.same s8).trans k9⟩
    · rintro σ H7 ⟨v3,v4,as,ini,rfl,K7,hi,k7⟩
      rw [List.length_map,mix_all] at K7
      have S7:=same_kp S6 hsl k7
      have hl7:H7 l=some (.lst [.int (Mx.nrN b 0 ps ws (b ^ ps.sum)),.int (Mx.nrN b 2 ps ws (b ^ ps.sum)),v]):=(k7.stay K6.ls (refs_map _ _)) _ _ u6 (nr_mem (i:=Mx.nrN b 0 ps ws (b ^ ps.sum)) (by simp))
      refine ⟨_,rfl,kp,dx,_,rfl,K7.ob,stF_no (by decide +kernel),kp,dx,sl,as,b,ps,ini,negs ws,0,rfl,K7,fun H8 s8=>?_⟩
      have K8:=K7.keep s8
      refine ⟨_,rfl,kp,dx,_,rfl,K8.ob,stF_no (by decide +kernel),kp,dx,sl,as,b,ps,ini,negs ws,2,rfl,K8,fun H9 s9=>?_⟩
      have K9:=K8.keep s9
      refine ⟨_,rfl,kp,dx,_,rfl,K9.ob,stF_no (by decide +kernel),kp,dx,sl,as,b,ps,ini,negs ws,5,rfl,K9,fun v' H10 s10 hv'=>⟨sz (by simp),fun l2 hl2=>?_⟩⟩
      rw [Mx.nrN_negs lp,Mx.nrN_negs lp]
      cases (byv_negs lp hv').same hv
      obtain ⟨dv,hd,hc,hp⟩:=dat_any (P:=P) (w:=w) (H:=H) (H':=H) hv
      have s11:=same_upd (o:=.lst [.int (Mx.nrN b 0 ps ws (b ^ ps.sum)),.int (Mx.nrN b 2 ps ws (b ^ ps.sum)),v]) hl2
      have T:=((s8.trans s9).trans s10).trans s11
      refine ⟨_,rfl,L2.eq_self (datL upd_same (.cons (datI _) (.cons (datI _) (.cons (hd _) .nil)))) (datL (T _ _ hl7) (.cons (datI _) (.cons (datI _) (.cons (hd _) .nil)))) ?_ ?_ (k _ (S7.trans T))⟩
      · simp [PyData.canLay0,PyData.canLayAll0,hc]
      · simp [PyData.depth,PyData.depthAll,hp]
end
end Hv
namespace Hv
open PySem L2
structure L7 (C:Addr) (H:Hp) (st kp dx sl sd:Addr) (as:List AF) (ls:List Addr) (b:Nat) (ps:List Nat) (wk wsd:List (List Int)):Prop where
  S:Store H st
  K:KpAt C H kp dx sl as b ps wk
  ko:∀ x∈as,x.2.1≠st∧x.2.2≠st
  hsd:H sd=some (.lst (ls.map V.ref))
  sn:ls.length=wsd.length
  se:∀ (i:Nat) (l:Addr) (ws:List Int),ls[i]?=some l→wsd[i]?=some ws→H l=some (.lst (ws.map V.int))∧l≠st∧1≤ws.length
  n1:sl≠sd
section
variable {C:Addr} {H H':Hp} {st kp dx sl sd:Addr} {as:List AF} {ls:List Addr} {b:Nat} {ps:List Nat} {wk wsd:List (List Int)}
theorem L7.keep (W:L7 C H st kp dx sl sd as ls b ps wk wsd) (s:Same H H'):L7 C H' st kp dx sl sd as ls b ps wk wsd :=
  ⟨W.S.keep s,W.K.keep s,W.ko,s _ _ W.hsd,W.sn,fun i l ws h1 h2=>⟨s _ _ (W.se i l ws h1 h2).1,(W.se i l ws h1 h2).2⟩,W.n1⟩
theorem L7.kst (W:L7 C H st kp dx sl sd as ls b ps wk wsd) (k:Kp [st] H H') (S':Store H' st):L7 C H' st kp dx sl sd as ls b ps wk wsd:=by
  obtain ⟨g,c,j,e⟩:=id W.S
  have ne:∀ {y:Addr} {o:HO},H y=some o→(o≠.lst [.int g,.int c,.int j])→H' y=some o:=fun {y o} h n=>k y o h (fun z=>by
    rw [List.mem_singleton.mp z,e] at h
    exact n (Option.some.inj h).symm)
  have nref:∀ {l:List V},RefL l→HO.lst l≠.lst [.int g,.int c,.int j]:=fun r z=>by
    injection z with z
    obtain ⟨a,e⟩:=r (.int g) (by rw [z];simp)
    cases e
  exact ⟨S',⟨ne W.K.ob (by intro z;cases z),ne W.K.ls (nref (refs_map _ _)),W.K.len,fun i x ws h1 h2=>(W.K.each i x ws h1 h2).kps W.S (W.ko x (List.mem_of_getElem? h1)).1 (W.ko x (List.mem_of_getElem? h1)).2 k⟩,W.ko,ne W.hsd (nref (refs_map id ls)),W.sn,fun i l ws h1 h2=>⟨k _ _ (W.se i l ws h1 h2).1 (by simpa using (W.se i l ws h1 h2).2.1),(W.se i l ws h1 h2).2⟩,W.n1⟩
theorem L7.keeper {as':List AF} {wk':List (List Int)} (W:L7 C H st kp dx sl sd as ls b ps wk wsd) (k:Kp [sl] H H') (K':KpAt C H' kp dx sl as' b ps wk') (ko':∀ x∈as',x.2.1≠st∧x.2.2≠st):L7 C H' st kp dx sl sd as' ls b ps wk' wsd:=by
  have s:=k.stay W.K.ls (refs_map _ _)
  exact ⟨W.S.stay s,K',ko',k _ _ W.hsd (by simpa using W.n1.symm),W.sn,fun i l ws h1 h2=>⟨s _ _ (W.se i l ws h1 h2).1 (nr_int (W.se i l ws h1 h2).2.2),(W.se i l ws h1 h2).2⟩,W.n1⟩
theorem L7.grow {l:Addr} {wz:List Int} (W:L7 C H st kp dx sl sd as ls b ps wk wsd) (k:Kp [sd] H H') (h1:H' sd=some (.lst (ls.map V.ref++[V.ref l]))) (h2:H' l=some (.lst (wz.map V.int))) (nl:l≠st) (hw:1≤wz.length):L7 C H' st kp dx sl sd as (ls++[l]) b ps wk (wsd++[wz]):=by
  have s:=k.stay W.hsd (refs_map id ls)
  have e:=k _ _ W.K.ls (by simpa using W.n1)
  refine ⟨W.S.stay s,W.K.stay s (by rw [e];exact W.K.ls.symm),W.ko,by rw [h1,List.map_append];rfl,by simp [W.sn],fun i m v g1 g2=>?_,W.n1⟩
  rcases snoc_get g1 with ⟨hi,g1⟩ | ⟨rfl,rfl⟩
  · rw [List.getElem?_append_left (by rw [← W.sn];exact hi)] at g2
    exact ⟨s _ _ (W.se i m v g1 g2).1 (nr_int (W.se i m v g1 g2).2.2),(W.se i m v g1 g2).2⟩
  · rw [W.sn,List.getElem?_append_right (Nat.le_refl _)] at g2
    simp at g2
    subst g2
    exact ⟨h2,nl,hw⟩
theorem L7.unstand {l:Addr} {wz:List Int} {ini:List (List Int)} (W:L7 C H st kp dx sl sd as (ls++[l]) b ps wk (ini++[wz])):L7 C (upd H sd (.lst (ls.map V.ref))) st kp dx sl sd as ls b ps wk ini:=by
  have s:=upd_stay (o:=.lst (ls.map V.ref)) W.hsd (refs_map id _)
  have hn:=W.sn
  simp at hn
  refine ⟨W.S.stay s,W.K.stay s (upd_ne W.n1),W.ko,upd_same,hn,fun i m v g1 g2=>?_,W.n1⟩
  have g:=W.se i m v (by rw [List.getElem?_append_left (List.getElem?_eq_some_iff.mp g1).1];exact g1) (by rw [List.getElem?_append_left (List.getElem?_eq_some_iff.mp g2).1];exact g2)
  exact ⟨s _ _ g.1 (nr_int g.2.2),g.2⟩
end
theorem same_kpl {H H1 H2:Hp} {fp:List Addr} (s:Same H H1) (h:∀ y∈fp,H y=none) (k:Kp fp H1 H2):Same H H2:=fun y o e=>k y o (s y o e) (fun z=>by rw [h y z] at e;cases e)
theorem kp_off {H H1 H2:Hp} {fp gp:List Addr} (s:Kp gp H H1) (h:∀ y∈fp,y∉gp→H y=none) (k:Kp fp H1 H2):Kp gp H H2:=fun y o e n=>k y o (s y o e n) (fun z=>by rw [h y z n] at e;cases e)
section
variable {P:Program} {w:World} {K:PySem.W.Frag} {mg:Str→Option Value} {base:Heap} {C:Addr}
theorem scLawLongRight:FnScope ["store","frame","keeper","stood","many","turn","place","weight"] ["store","frame"] (defScope sLawLongRight):=⟨rfl,rfl,rfl,by decide +kernel,rfl,by decide +kernel,by decide +kernel⟩
theorem ok_longr {f:Addr} {fd:FuncData} (F:Fun K "_law_long_right" "_law_long_right" sLawLongRight f fd) (T:Txt mg) (d_law_copy:Def P w K mg base 1 "_law_copy" ["frame"] spCopyK) (d_law_take:Def P w K mg base 1 "_law_take" ["store","many"] spTake) (cl:Cls K C) (m_weigh:MDef P w K mg base 8 C "weigh" ["self","place","weight"] (spWeigh C)) (m_changes:MDef P w K mg base 1 C "changes" ["self"] (spChanges C)) (m_frame:MDef P w K mg base 2 C "frame" ["self"] (spFrameK C)) (m_undo:MDef P w K mg base 8 C "undo" ["self"] (spUndo C)) (k_Keeper:CDef P w K mg base 6 "Keeper" C ["self","frame"] (spInit C)):FnOk P w K mg base CX0 9 f fd ["store","frame"] spLongR:=by
  refine F.ok scLawLongRight (fun vs H Q E h=>?_) (fun cdv A outer s H vs Q E hr h=>?_)
  · obtain ⟨st,f,a,c,b,ps,ws,rfl,_⟩:=h;rfl
  · obtain ⟨st,f,a,c,b,ps,ws,rfl,S,G,na0,nc0,k⟩:=h
    have nd:=scLawLongRight.nd
    refine ⟨_,(pss_cons (ps_set (i:=2) nd rfl (Or.inl rfl) (pe_mk k_Keeper (hr.mono (by decide)) (by rfl) (pa_cons (pe_fn d_law_copy (hr.mono (by decide)) (by rfl) (pa_cons (pv 1) pa_nil)) pa_nil)))
      (pss_cons (ps_set (i:=3) nd rfl (Or.inl rfl) (pe_lst (pa_cons (pe_callTy call_list_of (by rfl) T.list boot_list (pa_cons (ixt (pv 1) pe_int) pa_nil)) pa_nil)))
      (pss_cons (ps_set (i:=4) nd rfl (Or.inl rfl) (pe_op op_add pe_int (pe_fn d_law_take (hr.mono (by decide)) (by rfl) (pa_cons (pv 0) (pa_cons pe_int pa_nil)))))
      (pss_cons (ps_for PassesOwn.never rfl (pi_range1 (by rfl) T.range (pa_cons (pv 4) pa_nil)) (pg_name (i:=5) nd rfl (Or.inl rfl))
        (pss_cons (ps_set (i:=6) nd rfl (Or.inl rfl) (pe_fn d_law_take (hr.mono (by decide)) (by rfl) (pa_cons (pv 0) (pa_cons (lenS T.len (by rfl) (ixt (pv 1) pe_int)) pa_nil))))
        (pss_cons (ps_set (i:=7) nd rfl (Or.inl rfl) (pe_op op_sub (pe_fn d_law_take (hr.mono (by decide)) (by rfl) (pa_cons (pv 0) (pa_cons pe_int pa_nil))) pe_int))
        (pss_cons (ps_expr (pe_mt cl m_weigh hr (pv 2) (pa_cons (pv 6) (pa_cons (pv 7) pa_nil))))
        (pss_cons (ps_expr (pe_bm PySem.F.plainAttrs_list PySem.F.slot_list_append PySem.F.type_list_append mt_append (pv 3) (pa_cons (pe_callTy call_list_of (by rfl) T.list boot_list (pa_cons (ixl (pv 3) (pe_un un_neg pe_int)) pa_nil)) pa_nil)))
        (pss_cons (ps_asg (pv 7) (pg_sub (ixl (pv 3) (pe_un un_neg pe_int)) (pv 6) set_list))
        (pss_one (ps_if (PW.pt (pw_or (pt_cmpR op_ne (pe_mt0 cl m_changes (hr.mono (by decide)) (pv 2)) (pe_op op_add (pv 5) pe_int) (nomark _)) (pw_or1 (pt_cmpR (op_neDP P w rfl rfl hr.units) (pe_mt0 cl m_frame (hr.mono (by decide)) (pv 2)) (pe_tup (pa_cons (ixt (pv 1) pe_int) (pa_cons (ixt (pv 1) pe_int) (pa_cons (ixl (pv 3) (pe_un un_neg pe_int)) pa_nil)))) (nomark _))))) (pss_one (ps_ret pe_bl)) pss_nil))))))))
      (pss_cons (ps_for PassesOwn.never rfl (pi_range1 (by rfl) T.range (pa_cons (pe_callB (call_min2 rfl) (by rfl) T.min boot_min (pa_cons (pv 4) (pa_cons (pe_op op_sub pe_int (pv 4)) pa_nil))) pa_nil)) (pg_name (i:=5) nd rfl (Or.inl rfl))
        (pss_cons (ps_expr (pe_mt0 cl m_undo hr (pv 2)))
        (pss_cons (ps_expr (pe_bm0 PySem.F.plainAttrs_list PySem.F.slot_list_pop PySem.F.type_list_pop mt_pop (pv 3)))
        (pss_one (ps_if (PW.pt (pw_or (pt_cmpR op_ne (pe_mt0 cl m_changes (hr.mono (by decide)) (pv 2)) (pe_op op_sub (pe_op op_sub (pv 4) (pv 5)) pe_int) (nomark _)) (pw_or1 (pt_cmpR (op_neDP P w rfl rfl hr.units) (pe_mt0 cl m_frame (hr.mono (by decide)) (pv 2)) (pe_tup (pa_cons (ixt (pv 1) pe_int) (pa_cons (ixt (pv 1) pe_int) (pa_cons (ixl (pv 3) (pe_un un_neg pe_int)) pa_nil)))) (nomark _))))) (pss_one (ps_ret pe_bl)) pss_nil)))))
      (pss_one (ps_ret pe_bl))))))),?_⟩
    have ok:=G.ok
    have hwl:=ok.wl
    have hsm:=ok.sum
    refine ⟨_,rfl,f,a,c,b,ps,ws,rfl,G,fun f' a' c' H1 s1 G1 nf na nc _=>fun kp dx nk nd hne=>mk_read G1 nk nd fun sl x H2 s2 K2 nsl nx1 nx2=>?_⟩
    have S2:=s1.trans s2
    have G2:=G.keep S2
    have hsl:H sl=none:=s1.free nsl
    refine ⟨_,rfl,_,_,_,_,rfl,rfl,SqT.of G2.tp,rfl,⟨c,_,rfl,.inl (SqL.of G2.hw),fun l0 hl0=>⟨sz (by simp),fun sd hsd=>?_⟩⟩⟩
    have t3:=same_upd (o:=.lst (ws.map V.int)) hl0
    have u3:(upd H2 l0 (.lst (ws.map V.int))) l0=_:=upd_same
    generalize upd H2 l0 (.lst (ws.map V.int))=H3 at t3 u3 hsd⊢
    have t4:=same_upd (o:=.lst [V.ref l0]) hsd
    have u4:(upd H3 sd (.lst [V.ref l0])) sd=_:=upd_same
    generalize upd H3 sd (.lst [V.ref l0])=H4 at t4 u4⊢
    have T4:=t3.trans t4
    have S4:=S2.trans T4
    have hsd0:H sd=none:=(S2.trans t3).free hsd
    have hl00:H l0=none:=S2.free hl0
    have E4:=S.keep S4
    have nsd:sl≠sd:=fun z=>by rw [← z,(K2.keep t3).ls] at hsd;cases hsd
    have L4:L7 C H4 st kp dx sl sd [x] [l0] b ps [ws] [ws]:=⟨E4,K2.keep T4,fun y hy=>by rw [List.mem_singleton.mp hy];exact ⟨(S.keep s1).off nx1,(S.keep s1).off nx2⟩,u4,rfl,fun i l v h1 h2=>by
      have hi:=(List.getElem?_eq_some_iff.mp h1).1
      have e:i=0:=by simp at hi;lia
      subst e
      simp at h1 h2
      subst h1;subst h2
      exact ⟨t4 _ _ u3,S.off hl00,by lia⟩,nsd⟩
    refine ⟨_,rfl,st,30,rfl,E4,by decide,by decide,fun r H5 r0 r1 E5 k5=>⟨_,_,rfl,rfl,?_⟩⟩
    have L5:=L4.kst k5 E5
    obtain ⟨M,hM,hM1,hM2⟩:∃ M:Nat,30+r=(M:Int)∧30≤M∧M<60:=⟨(30+r).toNat,by lia,by lia,by lia⟩
    dsimp only
    rw [hM]
    have KH5:Kp [st,sl,sd] H H5:=((Kp.of S4).trans (k5.wid (by simp)))
    have G5:=(G.keep S4).kps E4 na0 nc0 k5
    refine ⟨_,rfl,_,rfl,by lia,by lia,for_range (n:=(M:Int).toNat) (fun i σ H'=>∃ v5 v6 v7 as ls wss,σ=[some (.ref st),some (.ref f),some (.ref kp),some (.ref sd),some (.int (M:Int)),v5,v6,v7]∧L7 C H' st kp dx sl sd as ls b ps wss wss∧wss.length=i+1∧FrAt H' f a c b ps ws∧Kp [st,sl,sd] H H')
      ⟨none,none,none,[x],[l0],[ws],rfl,L5,rfl,G5,KH5⟩ ?_ ?_⟩
    · rintro i σ H6 hi ⟨v5,v6,v7,as,ls,wss,rfl,L6,hl,G6,KH6⟩
      have hi':i<M:=by simpa using hi
      have ez:(0:Int)+(i:Int)=(i:Int):=Int.zero_add _
      rw [ez]
      obtain ⟨ini,wl,rfl⟩:=one_last (l:=wss) (by lia)
      have hini:ini.length=i:=by simp at hl;exact hl
      obtain ⟨ai,xl,eas,hai,Gl,_⟩:=L6.K.last
      have okl:=Gl.ok
      have hll:wl.length=ps.sum:=okl.wl
      refine ⟨_,rfl,_,rfl,r_ixt G6.tp rfl ⟨c,_,rfl,.inl (SqL.of G6.hw),st,_,rfl,L6.S,by rw [List.length_map];lia,by rw [List.length_map];lia,fun r H7 r0 r1 E7 k7=>?_⟩⟩
      rw [List.length_map] at r1
      obtain ⟨p,rfl⟩:∃ p:Nat,r=(p:Int):=⟨r.toNat,by lia⟩
      have L7':=L6.kst k7 E7
      have G7:=G6.kps L6.S na0 nc0 k7
      refine ⟨_,rfl,st,19,rfl,E7,by decide,by decide,fun q H8 q0 q1 E8 k8=>⟨_,_,rfl,rfl,?_⟩⟩
      have L8:=L7'.kst k8 E8
      have G8:=G7.kps E7 na0 nc0 k8
      -- weigh
      refine ⟨_,rfl,kp,dx,_,rfl,L8.K.ob,stF_no (by decide +kernel),_,rfl,_,rfl,kp,dx,sl,as,b,ps,ini,wl,p,q - 9,rfl,L8.K,by lia,by lia,by lia,by lia,fun t xn H9 nt ht nx1 nx2 nx3 K9 k9=>?_⟩
      have L9:=L8.keeper k9 K9 (fun y hy=>by
        rcases List.mem_append.mp hy with h | h
        · exact L8.ko y h
        · rw [List.mem_singleton.mp h];exact ⟨L8.S.off nx2,L8.S.off nx3⟩)
      have G9:=G8.stay (k9.stay L8.K.ls (refs_map _ _))
      -- stood
      have hlls:ls.length=ini.length+1:=by have:=L6.sn;simp at this;lia
      obtain ⟨lj,lz,rfl⟩:=one_last (l:=ls) (by lia)
      have hlz:=(L9.se lj.length lz wl (by simp) (by rw [show lj.length=ini.length by simp at hlls;lia,List.getElem?_append_right (Nat.le_refl _)];simp)).1
      refine ⟨_,rfl,.inl ⟨rfl,_,SqL.of L9.hsd⟩,_,rfl,_,rfl,r_ixl L9.hsd last_refs ⟨lz,_,rfl,.inl (SqL.of hlz),fun ln hln=>?_⟩⟩
      have t10:=same_upd (o:=.lst (wl.map V.int)) hln
      have u10:(upd H9 ln (.lst (wl.map V.int))) ln=_:=upd_same
      have nln:ln≠st:=L9.S.off hln
      have nsd':ln≠sd:=fun z=>by rw [z,L9.hsd] at hln;cases hln
      generalize upd H9 ln (.lst (wl.map V.int))=H10 at t10 u10⊢
      refine ⟨sd,_,_,rfl,rfl,t10 _ _ L9.hsd,szl (by rw [List.length_map];simp at hlls⊢;lia),?_⟩
      have hsd11:(upd H10 sd (.lst ((lj++[lz]).map V.ref++[V.ref ln]))) sd=_:=upd_same
      have hln11:(upd H10 sd (.lst ((lj++[lz]).map V.ref++[V.ref ln]))) ln=some (.lst (wl.map V.int)):=by rw [upd_ne nsd'];exact u10
      have k11:Kp [sd] H9 (upd H10 sd (.lst ((lj++[lz]).map V.ref++[V.ref ln]))):=(Kp.of t10).trans kp_at
      generalize upd H10 sd (.lst ((lj++[lz]).map V.ref++[V.ref ln]))=H11 at hsd11 hln11 k11⊢
      have elast:atI ((lj++[lz]).map V.ref++[V.ref ln]) (-1)=some (V.ref ln):=atI_last _ _
      refine ⟨_,rfl,_,rfl,_,rfl,_,_,_,_,rfl,rfl,SqL.of hsd11,elast,_,rfl,ln,_,_,p,rfl,rfl,hln11,by rw [List.length_map];exact ixN_nat (by lia),?_⟩
      have e12:(wl.map V.int).set p (V.int (q - 9))=(wl.set p (q - 9)).map V.int:=by rw [List.map_set]
      rw [e12]
      have k12:Kp [sd] H9 (upd H11 ln (.lst ((wl.set p (q - 9)).map V.int))):=fun y o e n=>by
        rw [upd_ne (fun z=>by rw [z,hln] at e;cases e)]
        exact k11 y o e n
      have L12:=L9.grow (l:=ln) (wz:=wl.set p (q - 9)) k12 (by rw [upd_ne nsd'.symm];exact hsd11) upd_same nln (by rw [List.length_set];lia)
      have G12:=G9.stay (k12.stay L9.hsd (refs_map id _))
      have KH12:Kp [st,sl,sd] H (upd H11 ln (.lst ((wl.set p (q - 9)).map V.int))):=(((KH6.trans ((k7.trans k8).wid (by simp))).trans (k9.wid (by simp))).trans (k12.wid (by simp)))
      generalize upd H11 ln (.lst ((wl.set p (q - 9)).map V.int))=H12 at L12 G12 KH12⊢
      -- the look
      refine ⟨_,rfl,kp,dx,_,rfl,L12.K.ob,stF_no (by decide +kernel),kp,dx,sl,_,b,ps,_,rfl,L12.K,_,rfl,_,_,rfl,rfl,rfl,_,rfl,?_⟩
      rw [ne_int_self (by simp;lia)]
      refine iteF ⟨_,rfl,kp,dx,_,rfl,L12.K.ob,stF_no (by decide +kernel),kp,dx,sl,_,b,ps,ini++[wl],wl.set p (q - 9),rfl,L12.K,fun fk ak ck H13 s13 G13 _ _ _=>?_⟩
      have L13:=L12.keep s13
      have Gf:=G12.keep s13
      have hlast:=(L13.se (lj++[lz]).length ln (wl.set p (q - 9)) (by simp) (by rw [show (lj++[lz]).length=(ini++[wl]).length by simp at hlls⊢;lia,List.getElem?_append_right (Nat.le_refl _)];simp)).1
      refine ⟨_,rfl,_,_,_,_,rfl,rfl,SqT.of Gf.tp,rfl,_,rfl,_,_,_,_,rfl,rfl,SqT.of Gf.tp,rfl,_,rfl,_,rfl,_,_,_,_,rfl,rfl,SqL.of L13.hsd,last_refs,sz (by simp),fun tt htt=>?_⟩
      have s14:=same_upd (o:=.tup [.int b,.ref a,.ref ln]) htt
      have Gt:FrAt (upd H13 tt (.tup [.int b,.ref a,.ref ln])) tt a ln b ps (wl.set p (q - 9)):=⟨upd_same,s14 _ _ Gf.hp,s14 _ _ hlast,G13.ok⟩
      refine L2.eq_self (G13.keep s14).dat Gt.dat (frD_lay _ _ _) (frD_depth _ _ _) ⟨_,rfl,iteF ?_⟩
      exact ⟨_,_,_,_,_,_,rfl,L13.keep s14,by simp [hini],Gf.keep s14,(KH12.same s13).same s14⟩
    · rintro σ H6 ⟨v5,v6,v7,as,ls,wss,rfl,L6,hl,G6,KH6⟩
      have hl':wss.length=M+1:=by simpa using hl
      refine ⟨_,rfl,_,rfl,_,_,rfl,rfl,_,_,rfl,?_⟩
      obtain ⟨N,hN,hN1⟩:∃ N:Nat,(if (60:Int) - (M:Int)<(M:Int) then (60:Int) - (M:Int) else (M:Int))=(N:Int)∧N≤M:=by
        refine ⟨(if (60:Int) - (M:Int)<(M:Int) then (60:Int) - (M:Int) else (M:Int)).toNat,?_,?_⟩ <;> split <;> lia
      rw [hN]
      refine ⟨_,rfl,by lia,by lia,for_range (n:=(N:Int).toNat) (fun i σ H'=>∃ v5 v6 v7 as ls,σ=[some (.ref st),some (.ref f),some (.ref kp),some (.ref sd),some (.int (M:Int)),v5,v6,v7]∧L7 C H' st kp dx sl sd as ls b ps (wss.take (wss.length - i)) (wss.take (wss.length - i))∧FrAt H' f a c b ps ws∧Kp [st,sl,sd] H H')
        ⟨v5,v6,v7,as,ls,rfl,by simpa using L6,G6,KH6⟩ ?_ ?_⟩
      · rintro i σ H7 hi ⟨v5,v6,v7,as,ls,rfl,W1,G7,KH7⟩
        have hi':i<N:=by simpa using hi
        have ez:(0:Int)+(i:Int)=(i:Int):=Int.zero_add _
        rw [ez]
        have hlen:(wss.take (wss.length - i)).length=wss.length - i:=by rw [List.length_take];lia
        obtain ⟨ini,wl,wz,e⟩:=two_last (l:=wss.take (wss.length - i)) (by lia)
        have e':wss.take (wss.length - (i+1))=ini++[wl]:=by
          rw [← take_pred (by lia) e]
          congr 1
        rw [e']
        rw [e] at W1 hlen
        simp only [List.length_append,List.length_singleton] at hlen
        have hla:as.length=ini.length+2:=by have:=W1.K.len;simp at this;lia
        have hll:ls.length=ini.length+2:=by have:=W1.sn;simp at this;lia
        obtain ⟨ai,xz,rfl⟩:=one_last (l:=as) (by lia)
        obtain ⟨lj,l1,l0',rfl⟩:=two_last (l:=ls) (by lia)
        simp only [List.length_append,List.length_singleton] at hla hll
        refine ⟨_,rfl,kp,dx,_,rfl,W1.K.ob,stF_no (by decide +kernel),kp,dx,sl,ai,xz,b,ps,ini,wl,wz,rfl,W1.K,by lia,fun t H8 nt ht K8 k8=>?_⟩
        have W2:=W1.keeper k8 K8 (fun y hy=>W1.ko y (List.mem_append_left _ hy))
        have G8:=G7.stay (k8.stay W1.K.ls (refs_map _ _))
        refine ⟨_,rfl,.inl ⟨rfl,_,SqL.of W2.hsd⟩,sd,_,_,rfl,rfl,W2.hsd,pop_refs.1,?_⟩
        rw [pop_refs.2]
        have W3:=W2.unstand
        have G9:=G8.stay (upd_stay (o:=.lst ((lj++[l1]).map V.ref)) W2.hsd (refs_map id _))
        have KH9:Kp [st,sl,sd] H (upd H8 sd (.lst ((lj++[l1]).map V.ref))):=(KH7.trans (k8.wid (by simp))).trans (kp_at.wid (by simp))
        generalize upd H8 sd (.lst ((lj++[l1]).map V.ref))=H9 at W3 G9 KH9⊢
        refine ⟨_,rfl,kp,dx,_,rfl,W3.K.ob,stF_no (by decide +kernel),kp,dx,sl,_,b,ps,_,rfl,W3.K,_,rfl,_,rfl,_,_,rfl,rfl,_,_,rfl,rfl,rfl,_,rfl,?_⟩
        rw [ne_int_self (by simp;lia)]
        refine iteF ⟨_,rfl,kp,dx,_,rfl,W3.K.ob,stF_no (by decide +kernel),kp,dx,sl,_,b,ps,ini,wl,rfl,W3.K,fun fk ak ck H13 s13 G13 _ _ _=>?_⟩
        have L13:=W3.keep s13
        have Gf:=G9.keep s13
        have hlast:=(L13.se lj.length l1 wl (by simp) (by rw [show lj.length=ini.length by lia,List.getElem?_append_right (Nat.le_refl _)];simp)).1
        refine ⟨_,rfl,_,_,_,_,rfl,rfl,SqT.of Gf.tp,rfl,_,rfl,_,_,_,_,rfl,rfl,SqT.of Gf.tp,rfl,_,rfl,_,rfl,_,_,_,_,rfl,rfl,SqL.of L13.hsd,last_refs,sz (by simp),fun tt htt=>?_⟩
        have s14:=same_upd (o:=.tup [.int b,.ref a,.ref l1]) htt
        have Gt:FrAt (upd H13 tt (.tup [.int b,.ref a,.ref l1])) tt a l1 b ps wl:=⟨upd_same,s14 _ _ Gf.hp,s14 _ _ hlast,G13.ok⟩
        refine L2.eq_self (G13.keep s14).dat Gt.dat (frD_lay _ _ _) (frD_depth _ _ _) ⟨_,rfl,iteF ?_⟩
        exact ⟨_,_,_,_,_,rfl,L13.keep s14,Gf.keep s14,(KH9.same s13).same s14⟩
      · rintro σ H7 ⟨v5,v6,v7,as,ls,rfl,W1,G7,KH7⟩
        exact k H7 W1.S (kp_off (Kp.refl (H:=H)) (fun y hy hn=>by
          simp only [List.mem_cons,List.not_mem_nil,or_false] at hy hn
          rcases hy with rfl | rfl | rfl
          · exact absurd rfl hn
          · exact hsl
          · exact hsd0) KH7)
end
end Hv
namespace L2
open PySem PySem.Spec PyProof.Rows
section
variable {X:Cx}
end
theorem ps_cut {X:Cx} {st:Stmt} {t:TS} (h:PS X st t):PS X st (fun D σ H=>∃ I:St→Hp→Prop,t {D with nx:=I} σ H∧∀ σ' H',I σ' H'→D.nx σ' H'):=fun pins s σ H D I0 ⟨I,ht,hI⟩=>thn (h pins s σ H _ I0 ht) fun f s' hf=>by
  cases f with
  | next=>obtain ⟨σ',H',i,q⟩:=hf;exact ⟨σ',H',i,hI _ _ q⟩
  | brk=>exact hf
  | cont=>exact hf
  | ret u=>exact hf
end L2
namespace Hv
open PySem L2
theorem nr_ne {H:Hp} {y z:Addr} {xs:List V} {o:HO} (hy:H y=some (.lst xs)) (hr:RefL xs) (hz:H z=some o) (n:NR o):z≠y:=fun q=>by
  rw [q,hy] at hz
  exact n xs (Option.some.inj hz).symm hr
theorem W7.fr {C:Addr} {H H':Hp} {st kp dx sl sd tl f a c:Addr} {as:List AF} {ls ts:List Addr} {b:Nat} {ps:List Nat} {wk wsd wtl:List (List Int)} {ws:List Int} (W:W7 C H st kp dx sl sd tl as ls ts b ps wk wsd wtl) (G:FrAt H f a c b ps ws) (na:a≠st) (nc:c≠st) (k:Kp [st,sl,sd,tl] H H'):FrAt H' f a c b ps ws:=by
  have nf:f≠st:=fun z=>by
    obtain ⟨g,c',j,e⟩:=W.S
    have h:=G.tp
    rw [z,e] at h
    cases h
  have hp:=nr_nat (ps:=ps) (by have:=G.ok.l2;lia)
  have hw:=nr_int (ws:=ws) (by have:=G.ok.wl;have:=G.ok.sum;lia)
  have ne:∀ {z:Addr} {o:HO},H z=some o→NR o→z≠st→z∉[st,sl,sd,tl]:=fun {z o} h n n0 hz=>by
    simp only [List.mem_cons,List.not_mem_nil,or_false] at hz
    rcases hz with h1 | h1 | h1 | h1
    · exact n0 h1
    · exact nr_ne W.K.ls (refs_map _ _) h n h1
    · exact nr_ne W.hsd (refs_map id ls) h n h1
    · exact nr_ne W.htl (refs_map id ts) h n h1
  exact G.kp k (ne G.tp nr_tup nf) (ne G.hp hp na) (ne G.hw hw nc)
theorem snoc_of_cons {α:Type} {x:α} {r:List α}:∃ ini y,x::r=ini++[y]∧ini.length=r.length:=by
  obtain ⟨ini,y,e⟩:=one_last (l:=x::r) (by simp)
  exact ⟨ini,y,e,by have:=congrArg List.length e;simp at this;lia⟩
theorem take_cons {α:Type} {x:α} {r:List α} {m:Nat} (h:m<(x::r).length):∃ r',(x::r).take ((x::r).length - m)=x::r'∧r'.length≤r.length:=by
  simp only [List.length_cons] at h⊢
  obtain ⟨k,hk⟩:∃ k,r.length+1 - m=k+1:=⟨r.length - m,by lia⟩
  rw [hk,List.take_succ_cons]
  exact ⟨_,rfl,List.length_take_le' _ _⟩
section
variable {P:Program} {w:World} {K:PySem.W.Frag} {mg:Str→Option Value} {base:Heap} {C:Addr}
theorem scLaw:FnScope ["script","at","store","frame","keeper","stood","told","lap","turn"] ["script"] (defScope sLaw):=⟨rfl,rfl,rfl,by decide +kernel,rfl,by decide +kernel,by decide +kernel⟩
theorem ok_law {f:Addr} {fd:FuncData} (F:Fun K "law" "law" sLaw f fd) (T:Txt mg) (d_law_cell:Def P w K mg base 1 "_law_cell" ["script","k"] (spCell K)) (d_law_store:Def P w K mg base 1 "_law_store" ["cell"] spStore) (d_law_take:Def P w K mg base 1 "_law_take" ["store","many"] spTake) (d_law_frame:Def P w K mg base 2 "_law_frame" ["store","longest"] spFrame) (d_law_copy:Def P w K mg base 1 "_law_copy" ["frame"] spCopyK) (d_law_long_right:Def P w K mg base 9 "_law_long_right" ["store","frame"] spLongR) (d_law_all:Def P w K mg base 15 "_law_all" ["keeper"] (spAll C)) (d_law_changed:Def P w K mg base 16 "_law_changed" ["store","keeper","stood","told"] (spChanged C)) (d_law_undone_right:Def P w K mg base 16 "_law_undone_right" ["keeper","stood","told","many"] (spUndone C)) (d_law_signs_right:Def P w K mg base 15 "_law_signs_right" ["frame"] spSignsR) (cl:Cls K C) (m_frame:MDef P w K mg base 2 C "frame" ["self"] (spFrameK C)) (m_changes:MDef P w K mg base 1 C "changes" ["self"] (spChanges C)) (k_Keeper:CDef P w K mg base 6 "Keeper" C ["self","frame"] (spInit C)):FnOk P w K mg base CX0 17 f fd ["script"] (spLaw K):=by
  refine F.ok scLaw (fun vs H Q E h=>?_) (fun cdv A outer s H vs Q E hr h=>?_)
  · obtain ⟨a0,ns,rfl,_⟩:=h;rfl
  · obtain ⟨a0,ns,rfl,hS,hlen,k⟩:=h
    have nd:=scLaw.nd
    refine ⟨_,(pss_cons (ps_for PassesOwn.never rfl (pi_range1 (by rfl) T.range (pa_cons (pe_callB (call_min2 rfl) (by rfl) T.min boot_min (pa_cons (pe_callB (call_max2 rfl) (by rfl) T.max boot_max (pa_cons (lenS T.len (by rfl) (pv 0)) (pa_cons pe_int pa_nil))) (pa_cons pe_int pa_nil))) pa_nil)) (pg_name (i:=1) nd rfl (Or.inl rfl))
        (pss_cons (ps_set (i:=2) nd rfl (Or.inl rfl) (pe_fn d_law_store (hr.mono (by decide)) (by rfl) (pa_cons (pe_fn d_law_cell (hr.mono (by decide)) (by rfl) (pa_cons (pv 0) (pa_cons (pv 1) pa_nil))) pa_nil)))
        (pss_cons (ps_set (i:=3) nd rfl (Or.inl rfl) (pe_fn d_law_frame (hr.mono (by decide)) (by rfl) (pa_cons (pv 2) (pa_cons pe_int pa_nil))))
        (pss_cons (ps_cut (ps_if (PW.pt (pw_and (pt_cmpR op_eq (pv 1) pe_int (nomark _)) (pw_and (pt_cmpR op_eq (pe_fn d_law_take (hr.mono (by decide)) (by rfl) (pa_cons (pv 2) (pa_cons pe_int pa_nil))) pe_int (nomark _)) (pw_and1 (pt_not (pt_val (pe_fn d_law_long_right (hr.mono (by decide)) (by rfl) (pa_cons (pv 2) (pa_cons (pv 3) pa_nil))))))))) (pss_one (ps_ret pe_bl)) pss_nil))
        (pss_cons (ps_set (i:=4) nd rfl (Or.inl rfl) (pe_mk k_Keeper (hr.mono (by decide)) (by rfl) (pa_cons (pe_fn d_law_copy (hr.mono (by decide)) (by rfl) (pa_cons (pv 3) pa_nil)) pa_nil)))
        (pss_cons (ps_set (i:=5) nd rfl (Or.inr rfl) (pe_lst (pa_cons (pe_fn d_law_all (hr.mono (by decide)) (by rfl) (pa_cons (pv 4) pa_nil)) pa_nil)))
        (pss_cons (ps_set (i:=6) nd rfl (Or.inr rfl) (pe_lst pa_nil))
        (pss_cons (ps_for PassesOwn.never rfl (pi_range1 (by rfl) T.range (pa_cons pe_int pa_nil)) (pg_name (i:=7) nd rfl (Or.inl rfl))
          (pss_cons (ps_for PassesOwn.never rfl (pi_range1 (by rfl) T.range (pa_cons (pe_op op_add pe_int (pe_fn d_law_take (hr.mono (by decide)) (by rfl) (pa_cons (pv 2) (pa_cons pe_int pa_nil)))) pa_nil)) (pg_name (i:=8) nd rfl (Or.inl rfl))
            (pss_one (ps_expr (pe_fn d_law_changed hr (by rfl) (pa_cons (pv 2) (pa_cons (pv 4) (pa_cons (pv 5) (pa_cons (pv 6) pa_nil))))))))
          (pss_cons (ps_if (pt_cmpR (op_neDP P w rfl rfl hr.units) (pe_cmp1 (defScope sLaw) ["script","at","store","frame","keeper","stood","told","lap","turn"] ["told","stood"] [6,5] rfl (pi_range1 (by rfl) T.range (pa_cons (lenS T.len (by rfl) (pv 6)) pa_nil)) (fun cl C s H fp=>(pf_one (pt_cmpR (op_neDP P w rfl rfl hr.units) (ixlK K rfl (pv 1) (pv 0)) (pe_tup (pa_cons (ixlK K rfl (ixlK K rfl (pv 2) (pv 0)) pe_int) (pa_cons (ixlK K rfl (ixlK K rfl (pv 2) (pe_op op_add (pv 0) pe_int)) pe_int) pa_nil))) (nomark _)))) (fun cl C s H fp=>(pv 0)) (by decide +kernel)) (pe_lst pa_nil) (nomark _)) (pss_one (ps_ret pe_bl)) pss_nil)
          (pss_one (ps_if (pt_not (pt_val (pe_fn d_law_undone_right hr (by rfl) (pa_cons (pv 4) (pa_cons (pv 5) (pa_cons (pv 6) (pa_cons (pe_fn d_law_take (hr.mono (by decide)) (by rfl) (pa_cons (pv 2) (pa_cons (pe_op op_add (lenS T.len (by rfl) (pv 6)) pe_int) pa_nil))) pa_nil))))))) (pss_one (ps_ret pe_bl)) pss_nil)))))
        (pss_cons (ps_if (PW.pt (pw_or (pt_not (pt_val (pe_fn d_law_undone_right hr (by rfl) (pa_cons (pv 4) (pa_cons (pv 5) (pa_cons (pv 6) (pa_cons (lenS T.len (by rfl) (pv 6)) pa_nil))))))) (pw_or1 (pt_not (pt_val (pe_fn d_law_signs_right (hr.mono (by decide)) (by rfl) (pa_cons (pv 3) pa_nil))))))) (pss_one (ps_ret pe_bl)) pss_nil)
        (pss_one (ps_if (PW.pt (pw_or (pt_cmpR (op_neDP P w rfl rfl hr.units) (pe_mt0 cl m_frame (hr.mono (by decide)) (pv 4)) (pv 3) (nomark _)) (pw_or1 (pt_cmpR op_ne (pe_mt0 cl m_changes (hr.mono (by decide)) (pv 4)) pe_int (nomark _))))) (pss_one (ps_ret pe_bl)) pss_nil)))))))))))
      (pss_one (ps_ret pe_bl))),?_⟩
    refine ⟨_,rfl,a0,_,rfl,.inl hS,_,_,rfl,_,_,rfl,?_⟩
    generalize hM:(if (6:Int)<(if (3:Int)>(((ns.map V.int).length:Nat):Int) then 3 else (((ns.map V.int).length:Nat):Int)) then (6:Int) else (if (3:Int)>(((ns.map V.int).length:Nat):Int) then 3 else (((ns.map V.int).length:Nat):Int)))=M
    have m1:3≤M∧M≤6:=by
      rw [← hM]
      split <;> (split <;> lia)
    refine ⟨_,rfl,by lia,by lia,for_range (n:=M.toNat) (fun i σ H2=>∃ v1 v2 v3 v4 v5 v6 v7 v8,σ=[some (.ref a0),v1,v2,v3,v4,v5,v6,v7,v8]∧Same H H2) ⟨none,none,none,none,none,none,none,none,rfl,Same.refl _⟩ ?_ ?_⟩
    · rintro i σ H2 hi ⟨v1,v2,v3,v4,v5,v6,v7,v8,rfl,s2⟩
      have ez:(0:Int)+(i:Int)=(i:Int):=Int.zero_add _
      rw [ez]
      refine ⟨_,rfl,_,rfl,a0,ns,i,rfl,s2.seq hS,by lia,fun cl'=>⟨cl',rfl,fun st H3 nq s3 E3=>?_⟩⟩
      have hq:H st=none:=s2.free nq
      have S3:=s2.trans s3
      refine ⟨_,rfl,st,2,rfl,E3,by decide,by decide,fun f a c b ps ws H6 E6 k6 G6 nf na nc=>?_⟩
      have na':a≠st:=E3.off na
      have nc':c≠st:=E3.off nc
      have S6:=same_kp S3 hq k6
      have ok:=G6.ok
      have hwl:=ok.wl
      have hsm:=ok.sum
      refine ⟨fun σ H'=>σ=[some (.ref a0),some (.int (i:Int)),some (.ref st),some (.ref f),v4,v5,v6,v7,v8]∧Store H' st∧FrAt H' f a c b ps ws∧Same H H',?iff,?tail⟩
      case iff =>
        refine ⟨_,rfl,rfl,_,rfl,ite2 (fun _=>?_) (fun _=>iteF ⟨rfl,E6,G6,S6⟩)⟩
        refine ⟨_,rfl,st,3,rfl,E6,by decide,by decide,fun r H7 r0 r1 E7 k7=>⟨rfl,_,rfl,?_⟩⟩
        have G7:=G6.kps E6 na' nc' k7
        have S7:=same_kp S6 hq k7
        refine ite2 (fun _=>?_) (fun _=>iteF ⟨rfl,E7,G7,S7⟩)
        exact ⟨_,rfl,_,rfl,st,f,a,c,b,ps,ws,rfl,E7,G7,na',nc',fun H8 E8 k8=>⟨_,rfl,iteF ⟨rfl,E8,G7.kps E7 na' nc' k8,same_kp S7 hq k8⟩⟩⟩
      rintro σ H7 ⟨rfl,E7,G7,S7⟩
      refine ⟨_,rfl,f,a,c,b,ps,ws,rfl,G7,fun f' a' c' H8 s8 G8 nf' na2 nc2 _=>fun kp dx nk nd hne=>mk_read G8 nk nd fun sl x H9 s9 K9 nsl nx1 nx2=>?_⟩
      have T9:=s8.trans s9
      refine ⟨_,rfl,kp,dx,sl,[x],b,ps,[],ws,rfl,K9,fun l fe ae ce v H10 s10 En nl nfe nae nce=>⟨sz (by simp),fun sd hsd=>?_⟩⟩
      have t11:=same_upd (o:=.lst [V.ref l]) hsd
      have u11:(upd H10 sd (.lst [V.ref l])) sd=_:=upd_same
      generalize upd H10 sd (.lst [V.ref l])=H11 at t11 u11⊢
      refine ⟨sz (by simp),fun tl htl=>?_⟩
      have t12:=same_upd (o:=.lst []) htl
      have u12:(upd H11 tl (.lst [])) tl=_:=upd_same
      generalize upd H11 tl (.lst [])=H12 at t12 u12⊢
      have T12:=((T9.trans s10).trans t11).trans t12
      have E9:=E7.keep T9
      have W12:W7 C H12 st kp dx sl sd tl [x] [l] [] b ps [ws] [ws] [ws]:=by
        refine ⟨E7.keep T12,K9.keep ((s10.trans t11).trans t12),fun y hy=>?_,by simp,t12 _ _ u11,rfl,fun j m v' h1 h2=>?_,u12,rfl,fun j t v' vz h1 h2 h3=>?_,fun z=>?_,fun z=>?_,fun z=>?_⟩
        · rw [List.mem_singleton.mp hy];exact ⟨(E7.keep s8).off nx1,(E7.keep s8).off nx2⟩
        · have hj:=(List.getElem?_eq_some_iff.mp h1).1
          have e:j=0:=by simp at hj;lia
          subst e
          simp at h1 h2
          subst h1;subst h2
          exact ⟨fe,ae,ce,v,En.stay (same_stay (t11.trans t12)),E9.off nae,E9.off nce⟩
        · simp at h1
        · rw [← z,(K9.keep s10).ls] at hsd;cases hsd
        · rw [← z,(K9.keep (s10.trans t11)).ls] at htl;cases htl
        · rw [← z,u11] at htl;cases htl
      have hsl7:H7 sl=none:=s8.free nsl
      have hsd7:H7 sd=none:=(T9.trans s10).free hsd
      have htl7:H7 tl=none:=((T9.trans s10).trans t11).free htl
      have h4:∀ y∈[st,sl,sd,tl],H y=none:=fun y hy=>by
        simp only [List.mem_cons,List.not_mem_nil,or_false] at hy
        rcases hy with rfl | rfl | rfl | rfl
        · exact hq
        · exact S7.free hsl7
        · exact S7.free hsd7
        · exact S7.free htl7
      have w1:∀ y∈[st],y∈[st,sl,sd,tl]:=by simp
      have w3:∀ y∈[sl,sd,tl],y∈[st,sl,sd,tl]:=fun y hy=>List.mem_cons_of_mem _ hy
      -- the laps
      refine ⟨_,rfl,by decide,by decide,for_range (n:=(3:Int).toNat) (fun lap σ H'=>∃ v7 v8 as ls ts rest,σ=[some (.ref a0),some (.int (i:Int)),some (.ref st),some (.ref f),some (.ref kp),some (.ref sd),some (.ref tl),v7,v8]∧W7 C H' st kp dx sl sd tl as ls ts b ps (ws::rest) (ws::rest) (ws::rest)∧rest.length≤7*lap∧FrAt H' f a c b ps ws∧Same H H')
        ⟨v7,v8,[x],[l],[],[],rfl,W12,by simp,G7.keep T12,S7.trans T12⟩ ?_ ?_⟩
      · rintro lap σ H13 hlap ⟨v7,v8,as,ls,ts,rest,rfl,W13,hr13,G13,S13⟩
        have hlap':lap<3:=hlap
        refine ⟨_,rfl,st,7,rfl,W13.S,by decide,by decide,fun r H14 r0 r1 E14 k14=>⟨_,_,rfl,rfl,?_⟩⟩
        have W14:=W13.kst k14 E14
        have G14:=W13.fr G13 na' nc' (k14.wid w1)
        have S14:=same_kpl S13 h4 (k14.wid w1)
        obtain ⟨N,rfl⟩:∃ N:Nat,r=(N:Int):=⟨r.toNat,by lia⟩
        have hNN:(1+(N:Int)).toNat=N+1:=by lia
        refine ⟨_,rfl,by lia,by lia,for_range (n:=(1+(N:Int)).toNat) (fun j σ H'=>∃ v8 as ls ts rest,σ=[some (.ref a0),some (.int (i:Int)),some (.ref st),some (.ref f),some (.ref kp),some (.ref sd),some (.ref tl),some (.int (0+(lap:Int))),v8]∧W7 C H' st kp dx sl sd tl as ls ts b ps (ws::rest) (ws::rest) (ws::rest)∧rest.length≤7*lap+j∧FrAt H' f a c b ps ws∧Same H H')
          ⟨v8,as,ls,ts,rest,rfl,W14,by lia,G14,S14⟩ ?_ ?_⟩
        · rintro j σ H15 hj ⟨v8,as,ls,ts,rest,rfl,W15,hr15,G15,S15⟩
          have hj':j<N+1:=by lia
          obtain ⟨ini,wl,e,hini⟩:=snoc_of_cons (x:=ws) (r:=rest)
          refine ⟨_,rfl,_,rfl,_,rfl,_,rfl,st,kp,dx,sl,sd,tl,as,ls,ts,b,ps,ini,wl,rfl,by rw [← e];exact W15,by lia,fun as' ls' ts' wz H16 W16 k16=>?_⟩
          rw [← e] at W16
          exact ⟨_,as',ls',ts',rest++[wz],rfl,W16,by simp;lia,W15.fr G15 na' nc' k16,same_kpl S15 h4 k16⟩
        · rintro σ H15 ⟨v8,as,ls,ts,rest,rfl,W15,hr15,G15,S15⟩
          have hr15':rest.length≤7*(lap+1):=by lia
          have htn:ts.length=rest.length:=by have:=W15.tn;simp at this;lia
          have hln:ls.length=rest.length+1:=by have:=W15.sn;simp at this;lia
          -- told and stood
          refine ⟨_,rfl,tl,_,rfl,.inl (SqL.of W15.htl),_,rfl,by rw [List.length_map];lia,by rw [List.length_map];lia,?_⟩
          rw [List.length_map]
          refine comp_range (lo:=0) (n:=((ts.length:Nat):Int).toNat) (fun j ys H'=>ys=[]∧Same H15 H') ⟨rfl,Same.refl _⟩ ?_ ?_
          · rintro j ys H16 hj ⟨rfl,s16⟩
            have hj':j<ts.length:=by simpa using hj
            have ej:(0:Int)+(j:Int)=(j:Int):=Int.zero_add _
            rw [ej]
            have W16:=W15.keep s16
            obtain ⟨t,ht⟩:∃ t,ts[j]?=some t:=⟨_,List.getElem?_eq_getElem hj'⟩
            obtain ⟨l1,hl1⟩:∃ l1,ls[j]?=some l1:=⟨_,List.getElem?_eq_getElem (by lia)⟩
            obtain ⟨l2,hl2⟩:∃ l2,ls[j+1]?=some l2:=⟨_,List.getElem?_eq_getElem (by lia)⟩
            obtain ⟨wa,hwa⟩:∃ wa,(ws::rest)[j]?=some wa:=⟨_,List.getElem?_eq_getElem (by simp;lia)⟩
            obtain ⟨wb,hwb⟩:∃ wb,(ws::rest)[j+1]?=some wb:=⟨_,List.getElem?_eq_getElem (by simp;lia)⟩
            have h1:=W16.te j t wa wb ht hwa hwb
            obtain ⟨f1,a1,c1,u1,E1,_⟩:=W16.se j l1 wa hl1 hwa
            obtain ⟨f2,a2,c2,u2,E2,_⟩:=W16.se (j+1) l2 wb hl2 hwb
            have i1:atI (ts.map V.ref) (j:Int)=some (V.ref t):=atI_nat (by rw [List.getElem?_map,ht];rfl)
            have i2:atI (ls.map V.ref) (j:Int)=some (V.ref l1):=atI_nat (by rw [List.getElem?_map,hl1];rfl)
            have i3:atI (ls.map V.ref) ((j:Int)+1)=some (V.ref l2):=by
              have:=atI_nat (xs:=ls.map V.ref) (j:=j+1) (v:=V.ref l2) (by rw [List.getElem?_map,hl2];rfl)
              simpa using this
            refine ⟨szl (by simp),_,rfl,_,rfl,_,_,_,_,rfl,rfl,SqL.of W16.htl,i1,_,rfl,_,rfl,_,_,_,_,rfl,rfl,SqL.of W16.hsd,i2,_,_,_,_,rfl,rfl,SqL.of E1.ls,rfl,_,rfl,_,rfl,_,_,rfl,rfl,_,_,_,_,rfl,rfl,SqL.of W16.hsd,i3,_,_,_,_,rfl,rfl,SqL.of E2.ls,rfl,sz (by simp),fun q hq=>?_⟩
            have s17:=same_upd (o:=.tup [.int (evN b ps wa),.int (evN b ps wb)]) hq
            exact L2.eq_self (datT (s17 _ _ h1) (.cons (datI _) (.cons (datI _) .nil))) (datT upd_same (.cons (datI _) (.cons (datI _) .nil))) rfl (by simp [PyData.depth,PyData.depthAll]) ⟨_,rfl,rfl,s16.trans s17⟩
          · rintro ys H16 ⟨rfl,s16⟩ p hp
            have s17:=s16.trans (same_upd (o:=.lst []) hp)
            refine ⟨sz (by simp),fun q hq=>?_⟩
            have s18:=same_upd (o:=.lst []) hq
            refine L2.eq_self (datL (s18 _ _ upd_same) .nil) (datL upd_same .nil) rfl (by simp [PyData.depth,PyData.depthAll]) ⟨_,rfl,iteF ?_⟩
            have T18:=s17.trans s18
            generalize upd (upd H16 p (.lst [])) q (.lst [])=H18 at T18⊢
            have W18:=W15.keep T18
            -- undone
            refine ⟨_,rfl,_,rfl,_,rfl,_,rfl,_,rfl,tl,_,rfl,.inl (SqL.of W18.htl),_,_,rfl,rfl,st,_,rfl,W18.S,by rw [List.length_map];lia,by rw [List.length_map];lia,fun r H19 r0 r1 E19 k19=>?_⟩
            rw [List.length_map] at r1
            obtain ⟨mm,rfl⟩:∃ mm:Nat,r=(mm:Int):=⟨r.toNat,by lia⟩
            have W19:=W18.kst k19 E19
            have G19:=W18.fr (G15.keep T18) na' nc' (k19.wid w1)
            have S19:=same_kpl (S15.trans T18) h4 (k19.wid w1)
            refine ⟨st,kp,dx,sl,sd,tl,as,ls,ts,b,ps,ws::rest,mm,rfl,W19,by simp;lia,by simp;lia,fun as' ls' ts' H20 W20 k20=>⟨_,rfl,iteF ?_⟩⟩
            obtain ⟨r',e',hr'⟩:=take_cons (x:=ws) (r:=rest) (m:=mm) (by simp;lia)
            rw [e'] at W20
            exact ⟨_,_,as',ls',ts',r',rfl,W20,by lia,W19.fr G19 na' nc' (k20.wid w3),same_kpl S19 h4 (k20.wid w3)⟩
      · rintro σ H13 ⟨v7,v8,as,ls,ts,rest,rfl,W13,hr13,G13,S13⟩
        have htn:ts.length=rest.length:=by have:=W13.tn;simp at this;lia
        have hr13':rest.length≤21:=hr13
        refine ⟨_,rfl,_,rfl,_,rfl,_,rfl,tl,_,rfl,.inl (SqL.of W13.htl),st,kp,dx,sl,sd,tl,as,ls,ts,b,ps,ws::rest,ts.length,by rw [List.length_map];rfl,W13,by simp;lia,by simp;lia,fun as' ls' ts' H14 W14 k14=>?_⟩
        have e1:(ws::rest).take ((ws::rest).length - ts.length)=[]++[ws]:=by
          rw [show (ws::rest).length - ts.length=1 by simp;lia]
          rfl
        rw [e1] at W14
        have G14:=W13.fr G13 na' nc' (k14.wid w3)
        have S14:=same_kpl S13 h4 (k14.wid w3)
        refine ⟨_,rfl,iteF ⟨_,rfl,f,a,c,b,ps,ws,rfl,G14,fun H15 s15=>⟨_,rfl,iteF ?_⟩⟩⟩
        have W15:=W14.keep s15
        have G15:=G14.keep s15
        refine ⟨_,rfl,kp,dx,_,rfl,W15.K.ob,stF_no (by decide +kernel),kp,dx,sl,as',b,ps,[],ws,rfl,W15.K,fun fk ak ck H16 s16 G16 _ _ _=>?_⟩
        have W16:=W15.keep s16
        refine ⟨_,rfl,L2.eq_self G16.dat (G15.keep s16).dat (frD_lay _ _ _) (frD_depth _ _ _) ⟨_,rfl,iteF ?_⟩⟩
        refine ⟨_,rfl,kp,dx,_,rfl,W16.K.ob,stF_no (by decide +kernel),kp,dx,sl,as',b,ps,_,rfl,W16.K,rfl,_,rfl,?_⟩
        rw [ne_int_self (by simp)]
        exact iteF ⟨_,_,_,_,_,_,_,_,rfl,(S14.trans s15).trans s16⟩
    · rintro σ H2 ⟨v1,v2,v3,v4,v5,v6,v7,v8,rfl,s2⟩
      exact k _
end
end Hv
namespace Hv
open PySem L2
structure FnIn (K:PySem.W.Frag) (x:Str) (st:Stmt):Prop where
  ex:∃ (f:Addr) (oc:Value) (od an:Option Addr) (osl:Array (Option Value)) (kV doc pm cdv ct:Value),PySem.W.nsIn K mainGlobals x=some (some (.ref f))∧
    K.lookup f=some ⟨oc,od,.func (PySem.W.fnOf x x (defArgs st) (defBody st) (defScope st) .none kV doc pm an cdv ct),osl⟩∧PySem.W.codeIn K cdv x=true∧PySem.W.keepIn K (.ref f)=true
theorem fn_in {K:PySem.W.Frag} {x:Str} {st:Stmt} {f:Addr} {oc:Value} {od an:Option Addr} {osl:Array (Option Value)} {kV doc pm cdv ct:Value} (a:PySem.W.nsIn K mainGlobals x=some (some (.ref f)))
    (l:K.lookup f=some ⟨oc,od,.func (PySem.W.fnOf x x (defArgs st) (defBody st) (defScope st) .none kV doc pm an cdv ct),osl⟩) (c:PySem.W.codeIn K cdv x=true) (k:PySem.W.keepIn K (.ref f)=true):FnIn K x st:=⟨f,oc,od,an,osl,kV,doc,pm,cdv,ct,a,l,c,k⟩
structure TxtIn (K:PySem.W.Frag):Prop where
  isi:PySem.W.nsIn K mainGlobals "isinstance"=some none
  int:PySem.W.nsIn K mainGlobals "int"=some none
  bool:PySem.W.nsIn K mainGlobals "bool"=some none
  list:PySem.W.nsIn K mainGlobals "list"=some none
  tuple:PySem.W.nsIn K mainGlobals "tuple"=some none
  all:PySem.W.nsIn K mainGlobals "all"=some none
  len:PySem.W.nsIn K mainGlobals "len"=some none
  sum:PySem.W.nsIn K mainGlobals "sum"=some none
  range:PySem.W.nsIn K mainGlobals "range"=some none
  max:PySem.W.nsIn K mainGlobals "max"=some none
  min:PySem.W.nsIn K mainGlobals "min"=some none
  rev:PySem.W.nsIn K mainGlobals "reversed"=some none
  zip:PySem.W.nsIn K mainGlobals "zip"=some none
  enum:PySem.W.nsIn K mainGlobals "enumerate"=some none
theorem us0 {p:List Value→Prop} (h:p []) (us:List Value) (hl:us.length=0):p us:=by rw [List.eq_nil_of_length_eq_zero hl];exact h
theorem usS {n:Nat} {p:List Value→Prop} (h:∀ a r,r.length=n→p (a::r)) (us:List Value) (hl:us.length=n+1):p us:=by
  cases us with
  | nil=>cases hl
  | cons a r=>exact h a r (Nat.succ.inj hl)
theorem us1 {p:List Value→Prop} (h:∀ a,p [a]):∀ us:List Value,us.length=1→p us:=usS fun a=>us0 (p:=fun r=>p (a::r)) (h a)
theorem us2 {p:List Value→Prop} (h:∀ a b,p [a,b]):∀ us:List Value,us.length=2→p us:=usS fun a=>us1 (p:=fun r=>p (a::r)) (h a)
theorem us3 {p:List Value→Prop} (h:∀ a b c,p [a,b,c]):∀ us:List Value,us.length=3→p us:=usS fun a=>us2 (p:=fun r=>p (a::r)) (h a)
theorem us4 {p:List Value→Prop} (h:∀ a b c d,p [a,b,c,d]):∀ us:List Value,us.length=4→p us:=usS fun a=>us3 (p:=fun r=>p (a::r)) (h a)
theorem us5 {p:List Value→Prop} (h:∀ a b c d e,p [a,b,c,d,e]):∀ us:List Value,us.length=5→p us:=usS fun a=>us4 (p:=fun r=>p (a::r)) (h a)
section
variable {P:Program} {w:World} {K:PySem.W.Frag} {mg:Str→Option Value} {base h:Heap}
theorem TxtIn.txt (T:TxtIn K) (X:K.In h) (G:h.Ns mainGlobals mg):Txt mg :=
  have e:∀ x,PySem.W.nsIn K mainGlobals x=some none→mg x=none:=fun x z=>PySem.W.mg_none_of X G z
  ⟨e _ T.isi,e _ T.int,e _ T.bool,e _ T.list,e _ T.tuple,e _ T.all,e _ T.len,e _ T.sum,e _ T.range,e _ T.max,e _ T.min,e _ T.rev,e _ T.zip,e _ T.enum⟩
theorem def_of {x:Str} {st:Stmt} {k:Nat} {ps:List Str} {sp:Sp} (D:FnIn K x st) (X:K.In h) (G:h.Ns mainGlobals mg) (ok:∀ f fd,Fun K x x st f fd→FnOk P w K mg base CX0 k f fd ps sp)
    (hb:∀ (kV doc pm:Value) (an:Option Addr) (cdv ct:Value) (us:List Value),us.length=ps.length→bindArgs (PySem.W.fnOf x x (defArgs st) (defBody st) (defScope st) .none kV doc pm an cdv ct) ⟨us,[]⟩=pure (ps.zip us)):Def P w K mg base k x ps sp:=by
  obtain ⟨f,oc,od,an,osl,kV,doc,pm,cdv,ct,a,l,c,kp⟩:=D.ex
  have F:=fun_mk (st:=st) l c kp
  exact ⟨f,_,ok _ _ F,PySem.W.mg_of X G a,kp,F.binds hb⟩
end
end Hv
namespace Hv
open PySem L2
structure MthIn (K:PySem.W.Frag) (C:Addr) (m qual:Str) (st:Stmt):Prop where
  ex:∃ (f:Addr) (oc:Value) (od an:Option Addr) (osl:Array (Option Value)) (kV doc pm cdv ct:Value),PySem.W.findIn K (.ref C) m=some (some (.ref f))∧PySem.W.isFn K (.ref f)=true∧
    K.lookup f=some ⟨oc,od,.func (PySem.W.fnOf m qual (defArgs st) (defBody st) (defScope st) .none kV doc pm an cdv ct),osl⟩∧PySem.W.codeIn K cdv qual=true∧PySem.W.keepIn K (.ref f)=true
theorem mth_in {K:PySem.W.Frag} {C:Addr} {m qual:Str} {st:Stmt} {f:Addr} {oc:Value} {od an:Option Addr} {osl:Array (Option Value)} {kV doc pm cdv ct:Value} (a:PySem.W.findIn K (.ref C) m=some (some (.ref f))) (i:PySem.W.isFn K (.ref f)=true)
    (l:K.lookup f=some ⟨oc,od,.func (PySem.W.fnOf m qual (defArgs st) (defBody st) (defScope st) .none kV doc pm an cdv ct),osl⟩) (c:PySem.W.codeIn K cdv qual=true) (k:PySem.W.keepIn K (.ref f)=true):MthIn K C m qual st:=⟨f,oc,od,an,osl,kV,doc,pm,cdv,ct,a,i,l,c,k⟩
section
variable {P:Program} {w:World} {K:PySem.W.Frag} {mg:Str→Option Value} {base:Heap}
theorem mdef_of {C:Addr} {m qual:Str} {st:Stmt} {k:Nat} {ps:List Str} {sp:Sp} (D:MthIn K C m qual st) (ok:∀ f fd,Fun K m qual st f fd→FnOk P w K mg base CX0 k f fd ps sp)
    (hb:∀ (kV doc pm:Value) (an:Option Addr) (cdv ct:Value) (us:List Value),us.length=ps.length→bindArgs (PySem.W.fnOf m qual (defArgs st) (defBody st) (defScope st) .none kV doc pm an cdv ct) ⟨us,[]⟩=pure (ps.zip us)):MDef P w K mg base k C m ps sp:=by
  obtain ⟨f,oc,od,an,osl,kV,doc,pm,cdv,ct,a,i,l,c,kp⟩:=D.ex
  have F:=fun_mk (st:=st) l c kp
  exact ⟨f,_,ok _ _ F,⟨a,i,kp⟩,F.binds hb⟩
theorem cdef_of {C:Addr} {x qual:Str} {st:Stmt} {k:Nat} {ps:List Str} {sp:Sp} (D:MthIn K C "__init__" qual st) (mk:PySem.W.makesIn K C=true) (kc:PySem.W.keepIn K (.ref C)=true) (hx:mg x=some (.ref C)) (ok:∀ f fd,Fun K "__init__" qual st f fd→FnOk P w K mg base CX0 k f fd ps sp)
    (hb:∀ (kV doc pm:Value) (an:Option Addr) (cdv ct:Value) (us:List Value),us.length=ps.length→bindArgs (PySem.W.fnOf "__init__" qual (defArgs st) (defBody st) (defScope st) .none kV doc pm an cdv ct) ⟨us,[]⟩=pure (ps.zip us)):CDef P w K mg base k x C ps sp:=by
  obtain ⟨f,oc,od,an,osl,kV,doc,pm,cdv,ct,a,i,l,c,kp⟩:=D.ex
  have F:=fun_mk (st:=st) l c kp
  exact ⟨f,_,ok _ _ F,⟨mk,a,i,kc⟩,hx,F.binds hb⟩
end
end Hv
namespace Hv
open PySem L2
theorem all_mk {l:PySem.W.OpenLaw} {w:World} {K:PySem.W.Frag} {h:Heap} {mg:Str→Option Value} {fa:Addr} (X:K.In h) (G:h.Ns mainGlobals mg) (hfa:mg "law"=some (.ref fa)) (TI:TxtIn K)
    (i0:FnIn K "is_whole" sWhole)
    (i1:FnIn K "is_between" sBetw)
    (i2:FnIn K "is_list_between" sLBetw)
    (i3:FnIn K "is_frame" sIsFrame)
    (i4:FnIn K "need_frame" sNeedFrame)
    (i5:FnIn K "how_many" sHowMany)
    (i6:FnIn K "need_number" sNeedNumber)
    (i7:FnIn K "cut_by_parts" sCut)
    (i8:FnIn K "figures_of" sFiguresOf)
    (i9:FnIn K "with_one_more_figure" sOneMore)
    (i10:FnIn K "ways_of_weights" sWaysW)
    (i11:FnIn K "ways_of_parts" sWaysParts)
    (i12:FnIn K "ways_with" sWaysWith)
    (i13:FnIn K "even_by_sums" sEvenBy)
    (i14:FnIn K "count_even" sCountEven)
    (i15:FnIn K "weighted_sum" sWeighted)
    (i16:FnIn K "number_of" sNumberOf)
    (i17:FnIn K "part_beginnings" sPartBegin)
    (i18:FnIn K "stretches_below" sStretches)
    (i19:FnIn K "need_miss" sNeedMiss)
    (i20:FnIn K "running_counts" sRunning)
    (i21:FnIn K "ways_within" sWithin)
    (i22:FnIn K "count_spread_within" sSpreadW)
    (i23:FnIn K "tails_of_part" sTailsOfPart)
    (i24:FnIn K "tails_of_parts" sTailsOfParts)
    (i25:FnIn K "ways_from_beginnings" sWaysFromBeginnings)
    (i26:FnIn K "count_begun" sCountBegun)
    (i27:FnIn K "count_below" sCountBelow)
    (i28:FnIn K "count_near" sCountNear)
    (i29:FnIn K "figure_and_rest" sFigureAndRest)
    (i30:FnIn K "number_at" sNumberAt)
    (i31:FnIn K "need_place" sNeedPlace)
    (i32:FnIn K "near_by" sNearBy)
    (i33:FnIn K "even_by" sEvenByK)
    (i34:FnIn K "_law_cell" sCell)
    (i35:FnIn K "_law_store" sStore)
    (i36:FnIn K "_law_take" sTake)
    (i37:FnIn K "_law_frame" sFrame)
    (i38:FnIn K "copy_of" sCopyOf)
    (i39:FnIn K "with_weight" sWithWeight)
    (i40:FnIn K "_law_copy" sCopy)
    (i41:FnIn K "_law_all" sLawAll)
    (i42:FnIn K "_law_changed" sLawChanged)
    (i43:FnIn K "_law_undone_right" sLawUndoneRight)
    (i44:FnIn K "_law_signs_right" sLawSignsRight)
    (i45:FnIn K "_law_long_right" sLawLongRight)
    {C:Addr} (aC:PySem.W.nsIn K mainGlobals "Keeper"=some (some (.ref C))) (pgC:PySem.W.plainGet K C Str.empty=true) (hdC:PySem.W.hasDictIn K C=true) (poC:PySem.W.plainOver K C=true) (saC:PySem.W.findIn K (.ref C) "__setattr__"=some (some (.builtin "object.__setattr__"))) (mkC:PySem.W.makesIn K C=true) (kC:PySem.W.keepIn K (.ref C)=true) (nS:PySem.W.findIn K (.ref C) "standing"=some none)
    (jm0:MthIn K C "__init__" "Keeper.__init__" sKeeperInit)
    (jm1:MthIn K C "changes" "Keeper.changes" sKeeperChanges)
    (jm2:MthIn K C "frame" "Keeper.frame" sKeeperFrame)
    (jm3:MthIn K C "near" "Keeper.near" sKeeperNear)
    (jm4:MthIn K C "even" "Keeper.even" sKeeperEven)
    (jm5:MthIn K C "weigh" "Keeper.weigh" sKeeperWeigh)
    (jm6:MthIn K C "undo" "Keeper.undo" sKeeperUndo)
    (ndict:PySem.W.nsIn K mainGlobals "dict"=some none)
    (nsorted:PySem.W.nsIn K mainGlobals "sorted"=some none)
    (jl:FnIn K "law" sLaw) :
    ∃ fd:FuncData,(∀ (s:Shared) (v:Value),BindsTo s fd ⟨[v],[]⟩ [("script",v)])∧∀ base:Heap,K.In base→base.Ns mainGlobals mg→FnOk l.prog w K mg base CX0 17 fa fd ["script"] (spLaw K):=by
  have T:=TI.txt X G
  obtain ⟨f,oc,od,an,osl,kV,doc,pm,cdv,ct,a,lk,c,kp⟩:=jl.ex
  have e:=hfa.symm.trans (PySem.W.mg_of X G a)
  cases e
  have F:=fun_mk (st:=sLaw) lk c kp
  refine ⟨PySem.W.fnOf "law" "law" (defArgs sLaw) (defBody sLaw) (defScope sLaw) .none kV doc pm an cdv ct,fun s v=>.of_eq rfl,fun base BX _=>?_⟩
  have ndict:mg "dict"=none:=PySem.W.mg_none_of X G ndict
  have nsorted:mg "sorted"=none:=PySem.W.mg_none_of X G nsorted
  have cl:Cls K C:=⟨pgC,hdC,poC,saC⟩
  have d_is_whole:Def l.prog w K mg base 1 "is_whole" ["thing"] spWhole:=def_of i0 X G (fun _ _ F=>ok_whole F T) fun _ _ _ _ _ _=>us1 fun _=>rfl
  have d_is_between:Def l.prog w K mg base 2 "is_between" ["thing","least","greatest"] spBetw:=def_of i1 X G (fun _ _ F=>ok_betw F d_is_whole) fun _ _ _ _ _ _=>us3 fun _ _ _=>rfl
  have d_is_list_between:Def l.prog w K mg base 3 "is_list_between" ["thing","least","greatest"] spLBetw:=def_of i2 X G (fun _ _ F=>ok_lbetw F T d_is_between) fun _ _ _ _ _ _=>us3 fun _ _ _=>rfl
  have d_is_frame:Def l.prog w K mg base 4 "is_frame" ["thing"] spIsFrame:=def_of i3 X G (fun _ _ F=>ok_isframe F T d_is_between d_is_list_between) fun _ _ _ _ _ _=>us1 fun _=>rfl
  have d_need_frame:Def l.prog w K mg base 5 "need_frame" ["thing"] spNeedFrame:=def_of i4 X G (fun _ _ F=>ok_needframe F d_is_frame) fun _ _ _ _ _ _=>us1 fun _=>rfl
  have d_how_many:Def l.prog w K mg base 6 "how_many" ["frame"] spHowMany:=def_of i5 X G (fun _ _ F=>ok_howmany F T d_need_frame) fun _ _ _ _ _ _=>us1 fun _=>rfl
  have d_need_number:Def l.prog w K mg base 7 "need_number" ["frame","thing"] spNeedNumber:=def_of i6 X G (fun _ _ F=>ok_neednumber F d_is_between d_how_many) fun _ _ _ _ _ _=>us2 fun _ _=>rfl
  have d_cut_by_parts:Def l.prog w K mg base 1 "cut_by_parts" ["frame","row"] spCut:=def_of i7 X G (fun _ _ F=>ok_cut F) fun _ _ _ _ _ _=>us2 fun _ _=>rfl
  have d_figures_of:Def l.prog w K mg base 8 "figures_of" ["frame","n"] spFigures:=def_of i8 X G (fun _ _ F=>ok_figuresof F T d_need_frame d_need_number) fun _ _ _ _ _ _=>us2 fun _ _=>rfl
  have d_with_one_more_figure:Def l.prog w K mg base 1 "with_one_more_figure" ["ways","base","weight"] spOneMore:=def_of i9 X G (fun _ _ F=>ok_onemore F T) fun _ _ _ _ _ _=>us3 fun _ _ _=>rfl
  have d_ways_of_weights:Def l.prog w K mg base 2 "ways_of_weights" ["base","weights"] spWaysW:=def_of i10 X G (fun _ _ F=>ok_waysw F T ndict nsorted d_with_one_more_figure) fun _ _ _ _ _ _=>us2 fun _ _=>rfl
  have d_ways_of_parts:Def l.prog w K mg base 3 "ways_of_parts" ["frame"] spWaysParts:=def_of i11 X G (fun _ _ F=>ok_waysparts F T d_cut_by_parts d_ways_of_weights) fun _ _ _ _ _ _=>us1 fun _=>rfl
  have d_ways_with:Def l.prog w K mg base 1 "ways_with" ["ways_by_part","total"] spWaysWith:=def_of i12 X G (fun _ _ F=>ok_wayswith F) fun _ _ _ _ _ _=>us2 fun _ _=>rfl
  have d_even_by_sums:Def l.prog w K mg base 6 "even_by_sums" ["frame"] spEvenBy:=def_of i13 X G (fun _ _ F=>ok_evenby F d_need_frame d_ways_of_parts d_ways_with) fun _ _ _ _ _ _=>us1 fun _=>rfl
  have d_count_even:Def l.prog w K mg base 7 "count_even" ["frame"] spCountEven:=def_of i14 X G (fun _ _ F=>ok_counteven F T d_even_by_sums) fun _ _ _ _ _ _=>us1 fun _=>rfl
  have d_weighted_sum:Def l.prog w K mg base 1 "weighted_sum" ["figures","weights"] spWeighted:=def_of i15 X G (fun _ _ F=>ok_weighted F T) fun _ _ _ _ _ _=>us2 fun _ _=>rfl
  have d_number_of:Def l.prog w K mg base 1 "number_of" ["base","figures"] spNumberOf:=def_of i16 X G (fun _ _ F=>ok_numberof F) fun _ _ _ _ _ _=>us2 fun _ _=>rfl
  have d_part_beginnings:Def l.prog w K mg base 1 "part_beginnings" ["frame","head","end"] spPartBegin:=def_of i17 X G (fun _ _ F=>ok_partbegin F T) fun _ _ _ _ _ _=>us3 fun _ _ _=>rfl
  have d_stretches_below:Def l.prog w K mg base 9 "stretches_below" ["frame","n"] spStretches:=def_of i18 X G (fun _ _ F=>ok_stretches F T d_how_many d_figures_of) fun _ _ _ _ _ _=>us2 fun _ _=>rfl
  have d_need_miss:Def l.prog w K mg base 2 "need_miss" ["thing"] spNeedMiss:=def_of i19 X G (fun _ _ F=>ok_needmiss F d_is_whole) fun _ _ _ _ _ _=>us1 fun _=>rfl
  have d_running_counts:Def l.prog w K mg base 1 "running_counts" ["ways","low","high"] spRunning:=def_of i20 X G (fun _ _ F=>ok_running F T) fun _ _ _ _ _ _=>us3 fun _ _ _=>rfl
  have d_ways_within:Def l.prog w K mg base 1 "ways_within" ["running_by_part","start","end"] spWithin:=def_of i21 X G (fun _ _ F=>ok_within F) fun _ _ _ _ _ _=>us3 fun _ _ _=>rfl
  have d_count_spread_within:Def l.prog w K mg base 2 "count_spread_within" ["ways_by_part","width"] spSpread:=def_of i22 X G (fun _ _ F=>ok_spread F T d_running_counts d_ways_within) fun _ _ _ _ _ _=>us2 fun _ _=>rfl
  have d_tails_of_part:Def l.prog w K mg base 3 "tails_of_part" ["base","weights"] spTailsP:=def_of i23 X G (fun _ _ F=>ok_tailsp F T d_ways_of_weights) fun _ _ _ _ _ _=>us2 fun _ _=>rfl
  have d_tails_of_parts:Def l.prog w K mg base 4 "tails_of_parts" ["frame"] spTailsPs:=def_of i24 X G (fun _ _ F=>ok_tailsps F d_cut_by_parts d_tails_of_part) fun _ _ _ _ _ _=>us1 fun _=>rfl
  have d_ways_from_beginnings:Def l.prog w K mg base 2 "ways_from_beginnings" ["rows","weights","tails"] spWaysFrom:=def_of i25 X G (fun _ _ F=>ok_waysfrom F T d_weighted_sum) fun _ _ _ _ _ _=>us3 fun _ _ _=>rfl
  have d_count_begun:Def l.prog w K mg base 3 "count_begun" ["frame","tails_by_part","d","head","end"] spCountBegun:=def_of i26 X G (fun _ _ F=>ok_countbegun F T d_part_beginnings d_cut_by_parts d_ways_from_beginnings d_count_spread_within) fun _ _ _ _ _ _=>us5 fun _ _ _ _ _=>rfl
  have d_count_below:Def l.prog w K mg base 10 "count_below" ["frame","tails_by_part","d","n"] spCountBelow:=def_of i27 X G (fun _ _ F=>ok_countbelow F T d_stretches_below d_count_begun) fun _ _ _ _ _ _=>us4 fun _ _ _ _=>rfl
  have d_count_near:Def l.prog w K mg base 6 "count_near" ["frame","d"] spCountNear:=def_of i28 X G (fun _ _ F=>ok_countnear F d_need_frame d_need_miss d_ways_of_parts d_count_spread_within) fun _ _ _ _ _ _=>us2 fun _ _=>rfl
  have d_figure_and_rest:Def l.prog w K mg base 4 "figure_and_rest" ["frame","tails_by_part","d","head","k"] spFigRest:=def_of i29 X G (fun _ _ F=>ok_figrest F d_count_begun) fun _ _ _ _ _ _=>us5 fun _ _ _ _ _=>rfl
  have d_number_at:Def l.prog w K mg base 11 "number_at" ["frame","tails_by_part","d","k"] spNumberAt:=def_of i30 X G (fun _ _ F=>ok_numberat F T d_how_many d_count_below d_figure_and_rest d_number_of) fun _ _ _ _ _ _=>us4 fun _ _ _ _=>rfl
  have d_need_place:Def l.prog w K mg base 2 "need_place" ["thing"] spNeedPlace:=def_of i31 X G (fun _ _ F=>ok_needplace F d_is_whole) fun _ _ _ _ _ _=>us1 fun _=>rfl
  have d_near_by_N:Def l.prog w K mg base 12 "near_by" ["frame","d","k"] spNearBy:=def_of i32 X G (fun _ _ F=>ok_nearby F d_need_frame d_need_miss d_need_place d_tails_of_parts d_number_at) fun _ _ _ _ _ _=>us3 fun _ _ _=>rfl
  have d_near_by:Def l.prog w K mg base 12 "near_by" ["frame","d","k"] spByV:=def_of i32 X G (fun _ _ F=>(ok_nearby F d_need_frame d_need_miss d_need_place d_tails_of_parts d_number_at).imp by_imp) fun _ _ _ _ _ _=>us3 fun _ _ _=>rfl
  have d_even_by:Def l.prog w K mg base 13 "even_by" ["frame","k"] spEvByV:=def_of i33 X G (fun _ _ F=>(ok_evenbyk F d_near_by_N).imp evby_imp) fun _ _ _ _ _ _=>us2 fun _ _=>rfl
  have d_law_cell:Def l.prog w K mg base 1 "_law_cell" ["script","k"] (spCell K):=def_of i34 X G (fun _ _ F=>ok_cell F T) fun _ _ _ _ _ _=>us2 fun _ _=>rfl
  have d_law_store:Def l.prog w K mg base 1 "_law_store" ["cell"] spStore:=def_of i35 X G (fun _ _ F=>ok_store F) fun _ _ _ _ _ _=>us1 fun _=>rfl
  have d_law_take:Def l.prog w K mg base 1 "_law_take" ["store","many"] spTake:=def_of i36 X G (fun _ _ F=>ok_take F) fun _ _ _ _ _ _=>us2 fun _ _=>rfl
  have d_law_frame:Def l.prog w K mg base 2 "_law_frame" ["store","longest"] spFrame:=def_of i37 X G (fun _ _ F=>ok_frame F T d_law_take) fun _ _ _ _ _ _=>us2 fun _ _=>rfl
  have d_copy_of:Def l.prog w K mg base 1 "copy_of" ["frame"] spCopyK:=def_of i38 X G (fun _ _ F=>ok_copyof F T) fun _ _ _ _ _ _=>us1 fun _=>rfl
  have d_with_weight:Def l.prog w K mg base 3 "with_weight" ["frame","place","weight"] spWith:=def_of i39 X G (fun _ _ F=>ok_with F T d_is_between d_copy_of) fun _ _ _ _ _ _=>us3 fun _ _ _=>rfl
  have k_Keeper:CDef l.prog w K mg base 6 "Keeper" C ["self","frame"] (spInit C):=cdef_of jm0 mkC kC (PySem.W.mg_of X G aC) (fun _ _ F=>ok_kinit F nS d_need_frame d_copy_of cl) fun _ _ _ _ _ _=>us2 fun _ _=>rfl
  have m_changes:MDef l.prog w K mg base 1 C "changes" ["self"] (spChanges C):=mdef_of jm1 (fun _ _ F=>ok_kchanges F T nS cl) fun _ _ _ _ _ _=>us1 fun _=>rfl
  have m_frame:MDef l.prog w K mg base 2 C "frame" ["self"] (spFrameK C):=mdef_of jm2 (fun _ _ F=>ok_kframe F nS d_copy_of cl) fun _ _ _ _ _ _=>us1 fun _=>rfl
  have m_near:MDef l.prog w K mg base 7 C "near" ["self","d"] (spNearK C):=mdef_of jm3 (fun _ _ F=>ok_knear F nS d_count_near cl) fun _ _ _ _ _ _=>us2 fun _ _=>rfl
  have m_even:MDef l.prog w K mg base 14 C "even" ["self","k"] (spEvenK C):=mdef_of jm4 (fun _ _ F=>ok_keven F nS d_even_by cl) fun _ _ _ _ _ _=>us2 fun _ _=>rfl
  have m_weigh:MDef l.prog w K mg base 8 C "weigh" ["self","place","weight"] (spWeigh C):=mdef_of jm5 (fun _ _ F=>ok_kweigh F nS d_with_weight d_count_even cl) fun _ _ _ _ _ _=>us3 fun _ _ _=>rfl
  have m_undo:MDef l.prog w K mg base 8 C "undo" ["self"] (spUndo C):=mdef_of jm6 (fun _ _ F=>ok_kundo F nS d_count_even cl m_changes) fun _ _ _ _ _ _=>us1 fun _=>rfl
  have d_law_copy:Def l.prog w K mg base 1 "_law_copy" ["frame"] spCopyK:=def_of i40 X G (fun _ _ F=>ok_copyl F T) fun _ _ _ _ _ _=>us1 fun _=>rfl
  have d_law_all:Def l.prog w K mg base 15 "_law_all" ["keeper"] (spAll C):=def_of i41 X G (fun _ _ F=>ok_all F cl m_frame m_near m_even m_changes) fun _ _ _ _ _ _=>us1 fun _=>rfl
  have d_law_changed:Def l.prog w K mg base 16 "_law_changed" ["store","keeper","stood","told"] (spChanged C):=def_of i42 X G (fun _ _ F=>ok_changed F T d_law_take d_law_all cl m_frame m_weigh) fun _ _ _ _ _ _=>us4 fun _ _ _ _=>rfl
  have d_law_undone_right:Def l.prog w K mg base 16 "_law_undone_right" ["keeper","stood","told","many"] (spUndone C):=def_of i43 X G (fun _ _ F=>ok_undone F T d_law_all cl m_undo) fun _ _ _ _ _ _=>us4 fun _ _ _ _=>rfl
  have d_law_signs_right:Def l.prog w K mg base 15 "_law_signs_right" ["frame"] spSignsR:=def_of i44 X G (fun _ _ F=>ok_signsr F T d_law_copy cl m_near m_even m_weigh k_Keeper) fun _ _ _ _ _ _=>us1 fun _=>rfl
  have d_law_long_right:Def l.prog w K mg base 9 "_law_long_right" ["store","frame"] spLongR:=def_of i45 X G (fun _ _ F=>ok_longr F T d_law_copy d_law_take cl m_weigh m_changes m_frame m_undo k_Keeper) fun _ _ _ _ _ _=>us2 fun _ _=>rfl
  exact ok_law F T d_law_cell d_law_store d_law_take d_law_frame d_law_copy d_law_long_right d_law_all d_law_changed d_law_undone_right d_law_signs_right cl m_frame m_changes k_Keeper
theorem walk {l:PySem.W.OpenLaw} {q:Program} {loose:List Str} {XP:(Str→Option Value)→Heap→Prop} {YP:World→Heap→Prop} {d:DefRec} {K:Params→PySem.W.Frag} (hn:l.most=some 63) (hdf:d.params.defaults=[])
    (hY:∀ (w:World) (h:Heap),YP w h→(K w.params).In h)
    (F:∀ (w:World) (mg:Str→Option Value) (fa:Addr) (h:Heap),(K w.params).In h→h.Ns mainGlobals mg→mg d.name=some (.ref fa)→
      ∃ fd:FuncData,(∀ (s:Shared) (u:Value),BindsTo s fd ⟨[u],[]⟩ [("script",u)])∧∀ base:Heap,(K w.params).In base→base.Ns mainGlobals mg→FnOk l.prog w (K w.params) mg base CX0 17 fa fd ["script"] (spLaw (K w.params))) :
    PySem.W.WalkO q loose XP YP l.row.toRowW d [] (fun f vs=>PySem.call f vs) :=
  L2.walk_of (n:=63) (k:=17) (x:="script") (CX:=fun _=>CX0) (sp:=fun w=>spLaw (K w.params)) hn (by decide) hdf ⟨rfl,by decide,by decide,rfl⟩ hY F (fun _ _ a ns hl _ hS=>⟨a,ns,rfl,hS,hl,fun _=>rfl⟩) fun _ _ _ _ _ z=>z
end Hv
open PySem PySem.W PyProof.Rows
theorem PySem.W.Fast.tw11743869032250216033:True:=trivial
theorem PySem.W.Fast.tw4659553894882459943:True:=trivial
theorem PySem.W.Fast.tw7062710383569589706:True:=trivial
theorem PySem.W.Fast.tw8155950781474168211:True:=trivial
theorem PySem.W.Fast.tw1675185888088302598:True:=trivial
theorem PySem.W.Fast.tw1229658638282082655:True:=trivial
theorem PySem.W.Fast.tw2345078481689296532:True:=trivial
theorem PySem.W.Fast.tw3053570299457810274:True:=trivial
theorem PySem.W.Fast.tw9938461686657501463:True:=trivial
theorem PySem.W.Fast.tw10807334178854095796:True:=trivial
theorem PySem.W.Fast.tw1806253156219384871:True:=trivial
theorem PySem.W.Fast.tw2143747693829429666:True:=trivial
theorem PySem.W.Fast.tw16497033108840493898:True:=trivial
theorem PySem.W.Fast.tw14691298924256748971:True:=trivial
theorem PySem.W.Fast.tw10899057351887989212:True:=trivial
theorem PySem.W.Fast.tw7931115416548320132:True:=trivial
theorem PySem.W.Fast.tw7054022041702742296:True:=trivial
theorem PySem.W.Fast.tw12825934621960326307:True:=trivial
theorem PySem.W.Fast.tw341861190579836300:True:=trivial
theorem PySem.W.Fast.tw18193732813815754090:True:=trivial
theorem PySem.W.Fast.tw2446771862247590298:True:=trivial
theorem PySem.W.Fast.tw17765385051034408514:True:=trivial
theorem PySem.W.Fast.tw2690707081818661026:True:=trivial
theorem PySem.W.Fast.tw715119276406787335:True:=trivial
theorem PySem.W.Fast.tw4837417896112873970:True:=trivial
theorem PySem.W.Fast.tw15136614183838743965:True:=trivial
theorem PySem.W.Fast.tw15609103678045768868:True:=trivial
theorem PySem.W.Fast.tw10252420828955478283:True:=trivial
theorem PySem.W.Fast.tw14053965039353306288:True:=trivial
theorem PySem.W.Fast.tw9156267042551353255:True:=trivial
theorem PySem.W.Fast.tw3623431938260439377:True:=trivial
theorem PySem.W.Fast.tw12213364486289621833:True:=trivial
theorem PySem.W.Fast.tw11529047508248516805:True:=trivial
theorem PySem.W.Fast.tw4990141717885372660:True:=trivial
theorem PySem.W.Fast.tw17987661945469399353:True:=trivial
theorem PySem.W.Fast.tw16059088592464418075:True:=trivial
theorem PySem.W.Fast.tw7732799977330949794:True:=trivial
theorem PySem.W.Fast.tw1772944054314451250:True:=trivial
theorem PySem.W.Fast.tw14943697833025152271:True:=trivial
theorem PySem.W.Fast.tw13934098582983706538:True:=trivial
theorem PySem.W.Fast.tw12350111847515432314:True:=trivial
theorem PySem.W.Fast.tw5698768779145282907:True:=trivial
theorem PySem.W.Fast.tw16525473933516090387:True:=trivial
theorem PySem.W.Fast.tw14219865603993553102:True:=trivial
theorem PySem.W.Fast.tw580524445470819879:True:=trivial
theorem PySem.W.Fast.tw13170202946226774219:True:=trivial
theorem PySem.W.Fast.tw13448336866935588134:True:=trivial
theorem PySem.W.Fast.tw6242192012665083049:True:=trivial
theorem PySem.W.Fast.tw18037053622435055622:True:=trivial
theorem PySem.W.Fast.tw16158956701031052519:True:=trivial
theorem PySem.W.Fast.tw2387455725548435941:True:=trivial
theorem PySem.W.Fast.tw15894869473423433936:True:=trivial
theorem PySem.W.Fast.tw471056979721684858:True:=trivial
theorem PySem.W.Fast.tw3182753830107894524:True:=trivial
theorem PySem.W.Fast.tw6907692927441364562:True:=trivial
theorem PySem.W.Fast.tw8335198394905922367:True:=trivial
theorem PySem.W.Fast.tw1205061362034153337:True:=trivial
theorem PySem.W.Fast.tw18146690082827174758:True:=trivial
theorem PySem.W.Fast.tw17766235930279148741:True:=trivial
theorem PySem.W.Fast.tw13760154514936595627:True:=trivial
theorem PySem.W.Fast.tw7503322880711262995:True:=trivial
theorem PySem.W.Fast.tw15354618395499680749:True:=trivial
theorem PySem.W.Fast.tw8079726503864012299:True:=trivial
theorem PySem.W.Fast.tw3617703892222750818:True:=trivial
theorem PySem.W.Fast.tw13556624040209290389:True:=trivial
theorem PySem.W.Fast.tw3932274844306794519:True:=trivial
theorem PySem.W.Fast.tw8612755653489453435:True:=trivial
theorem PySem.W.Fast.tw1154804016639217567:True:=trivial
theorem PySem.W.Fast.tw8150939096372280535:True:=trivial
theorem PySem.W.Fast.tw10384957407528656243:True:=trivial
theorem PySem.W.Fast.tw5463786371668769036:True:=trivial
theorem PySem.W.Fast.tw17789627636163042616:True:=trivial
theorem PySem.W.Fast.tw14896841458492440523:True:=trivial
theorem PySem.W.Fast.tw1409400267980512149:True:=trivial
theorem PySem.W.Fast.tw10540969041022565685:True:=trivial
theorem PySem.W.Fast.tw17467874566374752959:True:=trivial
theorem PySem.W.Fast.tw13242543691691211687:True:=trivial
theorem PySem.W.Fast.tw9962133407084337495:True:=trivial
theorem PySem.W.Fast.tw2726296408756538058:True:=trivial
theorem PySem.W.Fast.tw3320015889547573100:True:=trivial
theorem PySem.W.Fast.tw12912899159744359937:True:=trivial
theorem PySem.W.Fast.tw18344824633776611698:True:=trivial
theorem PySem.W.Fast.tw18350454820974535954:True:=trivial
theorem PySem.W.Fast.tw6088532522104291291:True:=trivial
theorem PySem.W.Fast.tw6942234019230932971:True:=trivial
theorem PySem.W.Fast.tw16877584014701514042:True:=trivial
theorem PySem.W.Fast.tw5390085687667183284:True:=trivial
theorem PySem.W.Fast.tw12298875955084458037:True:=trivial
theorem PySem.W.Fast.tw12325787253898104439:True:=trivial
theorem PySem.W.Fast.tw6849793455880176849:True:=trivial
theorem PySem.W.Fast.tw17422676694444109896:True:=trivial
theorem PySem.W.Fast.tw5265238554399510864:True:=trivial
theorem PySem.W.Fast.tw747031121051117743:True:=trivial
theorem PySem.W.Fast.tw13096668530415187638:True:=trivial
theorem PySem.W.Fast.tw11470271715238005000:True:=trivial
theorem PySem.W.Fast.tw6073519244863518760:True:=trivial
theorem PySem.W.Fast.tw824635750858722618:True:=trivial
theorem PySem.W.Fast.tw9928042097774214301:True:=trivial
theorem PySem.W.Fast.tw13950396678846053306:True:=trivial
theorem PySem.W.Fast.tw7191990026295641234:True:=trivial
theorem PySem.W.Fast.tw16602030626372995896:True:=trivial
theorem PySem.W.Fast.tw1291252995986890151:True:=trivial
theorem PySem.W.Fast.tw17569473049977754876:True:=trivial
theorem PySem.W.Fast.tw15783798258710895740:True:=trivial
theorem PySem.W.Fast.tw17656787968227988202:True:=trivial
theorem PySem.W.Fast.tw9088120383855762539:True:=trivial
theorem PySem.W.Fast.tw15774923695428110925:True:=trivial
theorem PySem.W.Fast.tw2217271043340016247:True:=trivial
theorem PySem.W.Fast.tw10016058192099865170:True:=trivial
theorem PySem.W.Fast.tw8935160318719667260:True:=trivial
theorem PySem.W.Fast.tw12951398424954574886:True:=trivial
theorem PySem.W.Fast.tw13905468378885238453:True:=trivial
theorem PySem.W.Fast.tw1839512934856278496:True:=trivial
theorem PySem.W.Fast.tw5304531894267919505:True:=trivial
theorem PySem.W.Fast.tw9760846586195151476:True:=trivial
theorem PySem.W.Fast.tw12652686552629879247:True:=trivial
theorem PySem.W.Fast.tw17350980810678617057:True:=trivial
theorem PySem.W.Fast.tw847232854143319880:True:=trivial
theorem PySem.W.Fast.tw2907379022191350577:True:=trivial
theorem PySem.W.Fast.tw3271448278973916689:True:=trivial
theorem PySem.W.Fast.tw17058979059300855090:True:=trivial
theorem PySem.W.Fast.tw14585019101675706740:True:=trivial
theorem PySem.W.Fast.tw14106375684478359784:True:=trivial
theorem PySem.W.Fast.tw8344732891915183702:True:=trivial
theorem PySem.W.Fast.tw17489741578663549298:True:=trivial
theorem PySem.W.Fast.tw1868446819663382564:True:=trivial
theorem PySem.W.Fast.tw4861779108798191873:True:=trivial
theorem PySem.W.Fast.tw8535408569689281971:True:=trivial
theorem PySem.W.Fast.tw2947601450102559930:True:=trivial
theorem PySem.W.Fast.tw1335026046904318577:True:=trivial
theorem PySem.W.Fast.tw3257372270568262385:True:=trivial
theorem PySem.W.Fast.tw15093187088817765810:True:=trivial
theorem PySem.W.Fast.tw9464411142853617355:True:=trivial
theorem PySem.W.Fast.tw3014035696647270349:True:=trivial
theorem PySem.W.Fast.tw9549126466191645776:True:=trivial
theorem PySem.W.Fast.tw13520607365660622154:True:=trivial
theorem PySem.W.Fast.tw7493425679753771825:True:=trivial
theorem PySem.W.Fast.tw2962043062118347692:True:=trivial
theorem PySem.W.Fast.tw9713834715370319037:True:=trivial
theorem PySem.W.Fast.tw7859316784109887795:True:=trivial
theorem PySem.W.Fast.tw16110581113754505621:True:=trivial
theorem PySem.W.Fast.tw14784960216301532739:True:=trivial
theorem PySem.W.Fast.tw3956743296748087920:True:=trivial
theorem PySem.W.Fast.tw9246209717060240416:True:=trivial
theorem PySem.W.Fast.tw15385356845727107302:True:=trivial
theorem PySem.W.Fast.tw6365352073679087634:True:=trivial
theorem PySem.W.Fast.tw14228094262996081769:True:=trivial
theorem PySem.W.Fast.tw1158151126511030264:True:=trivial
theorem PySem.W.Fast.tw2056124844120211663:True:=trivial
theorem PySem.W.Fast.tw14986048012846325762:True:=trivial
theorem PySem.W.Fast.tw7914302821230771311:True:=trivial
theorem PySem.W.Fast.tw10822832396697728325:True:=trivial
theorem PySem.W.Fast.tw13311891750040865999:True:=trivial
theorem PySem.W.Fast.tw17490474316642079987:True:=trivial
theorem PySem.W.Fast.tw10051539470728297124:True:=trivial
theorem PySem.W.Fast.tw13414269791949926432:True:=trivial
theorem PySem.W.Fast.tw11618997006824910668:True:=trivial
theorem PySem.W.Fast.tw1646161136599761733:True:=trivial
theorem PySem.W.Fast.tw5393720076731320484:True:=trivial
theorem PySem.W.Fast.tw17665105704818913604:True:=trivial
theorem PySem.W.Fast.tw5811664839197584200:True:=trivial
theorem PySem.W.Fast.tw10316755421083235114:True:=trivial
theorem PySem.W.Fast.tw806826554200035835:True:=trivial
theorem PySem.W.Fast.tw12431783371750999321:True:=trivial
theorem PySem.W.Fast.tw13426448486118616903:True:=trivial
theorem PySem.W.Fast.tw5782316082679278814:True:=trivial
theorem PySem.W.Fast.tw5138433346850898944:True:=trivial
theorem PySem.W.Fast.tw15973531326868924989:True:=trivial
theorem PySem.W.Fast.tw1996951216975937617:True:=trivial
theorem PySem.W.Fast.tw7933969870604858459:True:=trivial
theorem PySem.W.Fast.tw516147846984760510:True:=trivial
theorem PySem.W.Fast.tw15121478416828955597:True:=trivial
theorem PySem.W.Fast.tw1774238945020596157:True:=trivial
theorem PySem.W.Fast.tw8461313294840984327:True:=trivial
theorem PySem.W.Fast.tw12403595567228892107:True:=trivial
theorem PySem.W.Fast.tw13414342968189019763:True:=trivial
theorem PySem.W.Fast.tw15097215980185467491:True:=trivial
theorem PySem.W.Fast.tw16958044540986885007:True:=trivial
theorem PySem.W.Fast.tw2938150222947230817:True:=trivial
theorem PySem.W.Fast.tw5993430076409129152:True:=trivial
theorem PySem.W.Fast.tw107778483677281711:True:=trivial
theorem PySem.W.Fast.tw13312060109976130886:True:=trivial
theorem PySem.W.Fast.tw14328441057286106884:True:=trivial
theorem PySem.W.Fast.tw3994888848560995846:True:=trivial
theorem PySem.W.Fast.tw90510143548531892:True:=trivial
theorem PySem.W.Fast.tw14183182998533719621:True:=trivial
theorem PySem.W.Fast.tw5370131108008845644:True:=trivial
theorem PySem.W.Fast.tw11751828136522932009:True:=trivial
theorem PySem.W.Fast.tw7114412886852636164:True:=trivial
theorem PySem.W.Fast.tw13203111287280735552:True:=trivial
theorem PySem.W.Fast.tw13053602404947615565:True:=trivial
theorem PySem.W.Fast.tw9881469156502393589:True:=trivial
theorem PySem.W.Fast.tw6317352410057055111:True:=trivial
theorem PySem.W.Fast.tw15461828889551000502:True:=trivial
theorem PySem.W.Fast.tw2749304087256231486:True:=trivial
theorem PySem.W.Fast.tw10294838344528988894:True:=trivial
theorem PySem.W.Fast.tw7098308526302646289:True:=trivial
theorem PySem.W.Fast.tw467412471018069534:True:=trivial
theorem PySem.W.Fast.tw8884977031215630797:True:=trivial
theorem PySem.W.Fast.tw10293344764920552591:True:=trivial
theorem PySem.W.Fast.tw10562151878827759651:True:=trivial
theorem PySem.W.Fast.tw9231444085250218435:True:=trivial
theorem PySem.W.Fast.tw7485145350003561788:True:=trivial
theorem PySem.W.Fast.tw7432260554764605079:True:=trivial
theorem PySem.W.Fast.tw5761497923195592369:True:=trivial
theorem PySem.W.Fast.tw12861392045134608588:True:=trivial
theorem PySem.W.Fast.tw3216460258276477480:True:=trivial
theorem PySem.W.Fast.tw18327213959977973649:True:=trivial
theorem PySem.W.Fast.tw2712027649390951270:True:=trivial
theorem PySem.W.Fast.tw4894907309365733005:True:=trivial
theorem PySem.W.Fast.tw381782541737562443:True:=trivial
theorem PySem.W.Fast.tw11288732730552659889:True:=trivial
theorem PySem.W.Fast.tw7077071617041199601:True:=trivial
theorem PySem.W.Fast.tw1111353366164526979:True:=trivial
theorem PySem.W.Fast.tw5138916287274780807:True:=trivial
theorem PySem.W.Fast.tw16729817220125504065:True:=trivial
theorem PySem.W.Fast.tw3298412344942315174:True:=trivial
theorem PySem.W.Fast.tw4739541244289943122:True:=trivial
theorem PySem.W.Fast.tw2235732714192895822:True:=trivial
theorem PySem.W.Fast.tw5057829977378501650:True:=trivial
theorem PySem.W.Fast.tw10033641095589757396:True:=trivial
theorem PySem.W.Fast.tw2144189407356367064:True:=trivial
theorem PySem.W.Fast.tw3404204215886352343:True:=trivial
theorem PySem.W.Fast.tw2916942427146309083:True:=trivial
theorem PySem.W.Fast.tw841043149902429093:True:=trivial
theorem PySem.W.Fast.tw4913800687162641943:True:=trivial
theorem PySem.W.Fast.tw11608979077781425177:True:=trivial
theorem PySem.W.Fast.tw16474138120562857414:True:=trivial
theorem PySem.W.Fast.tw12101397095987879161:True:=trivial
theorem PySem.W.Fast.tw1483692575880237935:True:=trivial
theorem PySem.W.Fast.tw3165700610166609213:True:=trivial
theorem PySem.W.Fast.tw8291778812140616922:True:=trivial
theorem PySem.W.Fast.tw16261671638716121743:True:=trivial
theorem PySem.W.Fast.tw4855330844892163471:True:=trivial
theorem PySem.W.Fast.tw10007007219908600629:True:=trivial
theorem PySem.W.Fast.tw13030776329331105176:True:=trivial
theorem PySem.W.Fast.tw2705200381555093059:True:=trivial
theorem PySem.W.Fast.tw16149995930094702289:True:=trivial
theorem PySem.W.Fast.tw10071783667719701824:True:=trivial
theorem PySem.W.Fast.tw17005488585043644855:True:=trivial
theorem PySem.W.Fast.tw15513878387004931412:True:=trivial
theorem PySem.W.Fast.tw15395046802205047068:True:=trivial
theorem PySem.W.Fast.tw15922188538046356046:True:=trivial
theorem PySem.W.Fast.tw10428590271726289446:True:=trivial
theorem PySem.W.Fast.tw4034019692546158857:True:=trivial
theorem PySem.W.Fast.tw7014610157891511994:True:=trivial
theorem PySem.W.Fast.tw9092115505297915003:True:=trivial
theorem PySem.W.Fast.tw11713564809091432523:True:=trivial
theorem PySem.W.Fast.tw13953735289358975666:True:=trivial
theorem PySem.W.Fast.tw5875949682002740767:True:=trivial
theorem PySem.W.Fast.tw9250338360723225575:True:=trivial
theorem PySem.W.Fast.tw4213750290074847577:True:=trivial
theorem PySem.W.Fast.tw7946661982623919633:True:=trivial
theorem PySem.W.Fast.tw1492579577597723868:True:=trivial
theorem PySem.W.Fast.tw11697018797529342645:True:=trivial
theorem PySem.W.Fast.tw18168047461808932021:True:=trivial
theorem PySem.W.Fast.tw5560701478465040409:True:=trivial
theorem PySem.W.Fast.tw1315611711903236240:True:=trivial
theorem PySem.W.Fast.tw8547767415825802926:True:=trivial
theorem PySem.W.Fast.tw3474531318060890051:True:=trivial
theorem PySem.W.Fast.tw1072751615551480583:True:=trivial
theorem PySem.W.Fast.tw5608134409016994508:True:=trivial
theorem PySem.W.Fast.tw1201260369486330961:True:=trivial
theorem PySem.W.Fast.tw5589699815236240521:True:=trivial
theorem PySem.W.Fast.tw9464392249951755847:True:=trivial
theorem PySem.W.Fast.tw5304636321867318745:True:=trivial
theorem PySem.W.Fast.tw294216054356442595:True:=trivial
theorem PySem.W.Fast.tw4723947545334183351:True:=trivial
theorem PySem.W.Fast.tw6889045452810456220:True:=trivial
theorem PySem.W.Fast.tw11020063697682936231:True:=trivial
theorem PySem.W.Fast.tw8821858186227060883:True:=trivial
theorem PySem.W.Fast.tw12359675569436178249:True:=trivial
theorem PySem.W.Fast.tw12248694060191089718:True:=trivial
theorem PySem.W.Fast.tw3836573226982316031:True:=trivial
theorem PySem.W.Fast.tw12520300869418893132:True:=trivial
theorem PySem.W.Fast.tw14714175547047758502:True:=trivial
theorem PySem.W.Fast.tw4633964601364056023:True:=trivial
theorem PySem.W.Fast.tw1157566343215706411:True:=trivial
theorem PySem.W.Fast.tw9634874225538865298:True:=trivial
theorem PySem.W.Fast.tw7854816060318615962:True:=trivial
theorem PySem.W.Fast.tw1990614340637011970:True:=trivial
theorem PySem.W.Fast.tw12988661448570860286:True:=trivial
theorem PySem.W.Fast.tw4998479493192918946:True:=trivial
theorem PySem.W.Fast.tw8470766560748091628:True:=trivial
theorem PySem.W.Fast.tw2453212607220324922:True:=trivial
theorem PySem.W.Fast.tw172120846719622080:True:=trivial
theorem PySem.W.Fast.tw15148320236269391659:True:=trivial
theorem PySem.W.Fast.tw13686153620095998834:True:=trivial
theorem PySem.W.Fast.tw11365435575867767276:True:=trivial
theorem PySem.W.Fast.tw11733904594117169412:True:=trivial
theorem PySem.W.Fast.tw11547426359926243493:True:=trivial
theorem PySem.W.Fast.tw4257439687696104472:True:=trivial
theorem PySem.W.Fast.tw11126983737124728549:True:=trivial
theorem PySem.W.Fast.tw12384182304634432976:True:=trivial
theorem PySem.W.Fast.tw10472769742188092895:True:=trivial
theorem PySem.W.Fast.tw6575757365944562899:True:=trivial
theorem PySem.W.Fast.tw2963055864395058583:True:=trivial
theorem PySem.W.Fast.tw4313467138427555641:True:=trivial
theorem PySem.W.Fast.tw7394267036706757267:True:=trivial
theorem PySem.W.Fast.tw2932325307486687325:True:=trivial
theorem PySem.W.Fast.tw12412882168246170677:True:=trivial
theorem PySem.W.Fast.tw14147633686481420010:True:=trivial
theorem PySem.W.Fast.tw15483328588552008643:True:=trivial
theorem PySem.W.Fast.tw2629012754991894642:True:=trivial
theorem PySem.W.Fast.tw16197370329930379562:True:=trivial
theorem PySem.W.Fast.tw12784952850818531816:True:=trivial
theorem PySem.W.Fast.tw3319005969005138982:True:=trivial
theorem PySem.W.Fast.tw1453319033079875904:True:=trivial
theorem PySem.W.Fast.tw17191534422404892114:True:=trivial
theorem PySem.W.Fast.tw11787136679681944347:True:=trivial
theorem PySem.W.Fast.tw17276306223420718914:True:=trivial
theorem PySem.W.Fast.tw18195452230877964050:True:=trivial
theorem PySem.W.Fast.tw6171738367482064142:True:=trivial
theorem PySem.W.Fast.tw13751922946215191849:True:=trivial
theorem PySem.W.Fast.tw13709281785450574640:True:=trivial
theorem PySem.W.Fast.tw12020425661953975985:True:=trivial
theorem PySem.W.Fast.tw6402679934689673984:True:=trivial
theorem PySem.W.Fast.tw16364736130740298747:True:=trivial
theorem PySem.W.Fast.tw7667181221474343020:True:=trivial
theorem PySem.W.Fast.tw12901427716501211620:True:=trivial
theorem PySem.W.Fast.tw11572968921185308832:True:=trivial
theorem PySem.W.Fast.tw1504232171542634547:True:=trivial
theorem PySem.W.Fast.tw9289315295474898805:True:=trivial
theorem PySem.W.Fast.tw7068666769855144594:True:=trivial
theorem PySem.W.Fast.tw10914446244051739629:True:=trivial
theorem PySem.W.Fast.tw17010776587412228028:True:=trivial
theorem PySem.W.Fast.tw2243273733043201548:True:=trivial
theorem PySem.W.Fast.tw10310638883882812275:True:=trivial
theorem PySem.W.Fast.tw8323313160489137871:True:=trivial
theorem PySem.W.Fast.tw3196662835317187095:True:=trivial
theorem PySem.W.Fast.tw13958435807055077370:True:=trivial
theorem PySem.W.Fast.tw13730181647780732735:True:=trivial
theorem PySem.W.Fast.tw622570967728617299:True:=trivial
theorem PySem.W.Fast.tw9644850214900670436:True:=trivial
theorem PySem.W.Fast.tw1828289948673480551:True:=trivial
theorem PySem.W.Fast.tw16510269548841011419:True:=trivial
theorem PySem.W.Fast.tw15136620211052077746:True:=trivial
theorem PySem.W.Fast.tw2227353025626565889:True:=trivial
theorem PySem.W.Fast.tw1570244984338640766:True:=trivial
theorem PySem.W.Fast.tw9037400476804575807:True:=trivial
theorem PySem.W.Fast.tw13291613880524588838:True:=trivial
theorem PySem.W.Fast.tw15443569132398445805:True:=trivial
theorem PySem.W.Fast.tw4475866417205654604:True:=trivial
theorem PySem.W.Fast.tw6888968479142892571:True:=trivial
theorem PySem.W.Fast.tw1627278014883419971:True:=trivial
theorem PySem.W.Fast.tw6187000556089124620:True:=trivial
theorem PySem.W.Fast.tw11860541271848848737:True:=trivial
theorem PySem.W.Fast.tw14255499854720625843:True:=trivial
theorem PySem.W.Fast.tw3051952012104514350:True:=trivial
theorem PySem.W.Fast.tw10070163002178877354:True:=trivial
theorem PySem.W.Fast.tw11967941561031094974:True:=trivial
theorem PySem.W.Fast.tw9380930519897135882:True:=trivial
theorem PySem.W.Fast.tw13460939450851817829:True:=trivial
theorem PySem.W.Fast.tw9391737584594906517:True:=trivial
theorem PySem.W.Fast.tw14848528549989142235:True:=trivial
theorem PySem.W.Fast.tw15499209702770854838:True:=trivial
theorem PySem.W.Fast.tw13725209421949479211:True:=trivial
theorem PySem.W.Fast.tw1783897509671116122:True:=trivial
theorem PySem.W.Fast.tw17435812090428088385:True:=trivial
theorem PySem.W.Fast.tw7075519590605220307:True:=trivial
theorem PySem.W.Fast.tw5947266664280089370:True:=trivial
theorem PySem.W.Fast.tw16928189847138847171:True:=trivial
theorem PySem.W.Fast.tw9385628609020746212:True:=trivial
theorem PySem.W.Fast.tw4492942279419021916:True:=trivial
theorem PySem.W.Fast.tw9355521260215550725:True:=trivial
theorem PySem.W.Fast.tw6985321888871168744:True:=trivial
theorem PySem.W.Fast.tw9729652225786086834:True:=trivial
theorem PySem.W.Fast.tw14009741265032812139:True:=trivial
theorem PySem.W.Fast.tw7514537903117049427:True:=trivial
theorem PySem.W.Fast.tw11556953508881092508:True:=trivial
theorem PySem.W.Fast.tw16833166058628213367:True:=trivial
theorem PySem.W.Fast.tw14566007910029099310:True:=trivial
theorem PySem.W.Fast.tw18330839107948339544:True:=trivial
theorem PySem.W.Fast.tw17609667437796483088:True:=trivial
theorem PySem.W.Fast.tw17215876018954101132:True:=trivial
theorem PySem.W.Fast.tw937831168462079134:True:=trivial
theorem PySem.W.Fast.tw6303098293722838279:True:=trivial
theorem PySem.W.Fast.tw6019450547754056974:True:=trivial
theorem PySem.W.Fast.tw4025449956414605401:True:=trivial
theorem PySem.W.Fast.tw316037178959355770:True:=trivial
theorem PySem.W.Fast.tw10759054770575595935:True:=trivial
theorem PySem.W.Fast.tw5497108300046999180:True:=trivial
theorem PySem.W.Fast.tw4316204148471711306:True:=trivial
theorem PySem.W.Fast.tw17464006243551748196:True:=trivial
theorem PySem.W.Fast.tw6394755592913386514:True:=trivial
theorem PySem.W.Fast.tw17946633739381663280:True:=trivial
theorem PySem.W.Fast.tw403711855379366157:True:=trivial
theorem PySem.W.Fast.tw8244638654728180634:True:=trivial
theorem PySem.W.Fast.tw13380838369070281128:True:=trivial
theorem PySem.W.Fast.tw11074921173488938560:True:=trivial
theorem PySem.W.Fast.tw15024934206548259428:True:=trivial
theorem PySem.W.Fast.tw14174841355428913488:True:=trivial
theorem PySem.W.Fast.tw2974467981096598634:True:=trivial
theorem PySem.W.Fast.tw6841225528273226730:True:=trivial
theorem PySem.W.Fast.tw6811711355900128716:True:=trivial
theorem PySem.W.Fast.tw6949439950348700230:True:=trivial
theorem PySem.W.Fast.tw18365596938908451788:True:=trivial
theorem PySem.W.Fast.tw14788769778565521584:True:=trivial
theorem PySem.W.Fast.tw2565049637130341616:True:=trivial
theorem PySem.W.Fast.tw1956610287151289090:True:=trivial
theorem PySem.W.Fast.tw947362200778178423:True:=trivial
theorem PySem.W.Fast.tw16743609501783716375:True:=trivial
theorem PySem.W.Fast.tw5829933409308561079:True:=trivial
theorem PySem.W.Fast.tw7198938734354770402:True:=trivial
theorem PySem.W.Fast.tw1789151458620428689:True:=trivial
theorem PySem.W.Fast.tw15995381393417442982:True:=trivial
theorem PySem.W.Fast.tw2249673933760429513:True:=trivial
theorem PySem.W.Fast.tw3948517217688545500:True:=trivial
theorem PySem.W.Fast.tw772724458641429219:True:=trivial
theorem PySem.W.Fast.tw16812154600632661217:True:=trivial
theorem PySem.W.Fast.tw3892109980895805189:True:=trivial
theorem PySem.W.Fast.tw12212214738868797096:True:=trivial
theorem PySem.W.Fast.tw2163736856961882258:True:=trivial
theorem PySem.W.Fast.tw10108806730230043081:True:=trivial
theorem PySem.W.Fast.tw17927115905654197622:True:=trivial
theorem PySem.W.Fast.tw3511442960845617034:True:=trivial
theorem PySem.W.Fast.tw5207905973426290698:True:=trivial
theorem PySem.W.Fast.tw7177426334233267832:True:=trivial
theorem PySem.W.Fast.tw6775313684617021893:True:=trivial
theorem PySem.W.Fast.tw12551643547664572116:True:=trivial
set_option maxRecDepth 100000 in
set_option maxHeartbeats 0 in
theorem PySem.Challenge.cw_likehalves_k37_whole_there_and_back_holds : PySem.Challenge.rw_likehalves_k37_whole_there_and_back.Holds := by
  w_on;o_law;k_head;(case hw=>w_witness2)
  k_fill
  refine Hv.walk (l := PySem.Challenge.rw_likehalves_k37_whole_there_and_back) rfl rfl (fun w h Y => PySem.W.kIn_of Y) ?F
  case F =>
    intro w mg fa h KX G hmg
    refine' Hv.all_mk KX G hmg ?t ?i0 ?i1 ?i2 ?i3 ?i4 ?i5 ?i6 ?i7 ?i8 ?i9 ?i10 ?i11 ?i12 ?i13 ?i14 ?i15 ?i16 ?i17 ?i18 ?i19 ?i20 ?i21 ?i22 ?i23 ?i24 ?i25 ?i26 ?i27 ?i28 ?i29 ?i30 ?i31 ?i32 ?i33 ?i34 ?i35 ?i36 ?i37 ?i38 ?i39 ?i40 ?i41 ?i42 ?i43 ?i44 ?i45 ?aC ?pgC ?hdC ?poC ?saC ?mkC ?kC ?nS ?jm0 ?jm1 ?jm2 ?jm3 ?jm4 ?jm5 ?jm6 ?ndict ?nsorted ?jl
    case aC=>k_is
    case pgC=>k_is
    case hdC=>k_is
    case poC=>k_is
    case saC=>k_is
    case mkC=>k_is
    case kC=>k_is
    case nS=>k_is
    case jm0 =>
      refine' Hv.mth_in ?a ?i ?l ?c ?k
      (case a=>k_is);(case i=>k_is);(case l=>k_is);(case c=>k_is);(case k=>k_is)
    case jm1 =>
      refine' Hv.mth_in ?a ?i ?l ?c ?k
      (case a=>k_is);(case i=>k_is);(case l=>k_is);(case c=>k_is);(case k=>k_is)
    case jm2 =>
      refine' Hv.mth_in ?a ?i ?l ?c ?k
      (case a=>k_is);(case i=>k_is);(case l=>k_is);(case c=>k_is);(case k=>k_is)
    case jm3 =>
      refine' Hv.mth_in ?a ?i ?l ?c ?k
      (case a=>k_is);(case i=>k_is);(case l=>k_is);(case c=>k_is);(case k=>k_is)
    case jm4 =>
      refine' Hv.mth_in ?a ?i ?l ?c ?k
      (case a=>k_is);(case i=>k_is);(case l=>k_is);(case c=>k_is);(case k=>k_is)
    case jm5 =>
      refine' Hv.mth_in ?a ?i ?l ?c ?k
      (case a=>k_is);(case i=>k_is);(case l=>k_is);(case c=>k_is);(case k=>k_is)
    case jm6 =>
      refine' Hv.mth_in ?a ?i ?l ?c ?k
      (case a=>k_is);(case i=>k_is);(case l=>k_is);(case c=>k_is);(case k=>k_is)
    case ndict=>k_is
    case nsorted=>k_is
    case t=>refine ⟨?_,?_,?_,?_,?_,?_,?_,?_,?_,?_,?_,?_,?_,?_⟩ <;> k_is
    all_goals
      refine' Hv.fn_in ?a ?l ?c ?k
      (case a=>k_is);(case l=>k_is);(case c=>k_is);(case k=>k_is)
#print axioms PySem.Challenge.cw_likehalves_k37_whole_there_and_back_holds
