import PyProof.Rows.All
import Wide.All
import OpenK.AllK
import Wide.FinOn
import Lean
import PyProof.EqAt
import PyProof.EqKinds
import PyProof.TupleCall
import KE.KIsAll
import KE.KItem
import KE.KxBytes
import KE.KRevIter
import PyProof.LongRange
import KE.KDictOf
import PyProof.ReprRoads
import PyProof.ListRange
import PyProof.ReprLen
import PyProof.Rows.StrJoin2
import PyProof.StrWalks
import PyProof.StrCalls2
import PyProof.SliceStr2
import KE.KIntText
import PyProof.StrLawsTight
import PyProof.StrBlockL
import PyProof.Rows.ReprOcc
import PyProof.StationsW
import PyProof.Rows.TopTwo
import OpenK.KOwn
import PyProof.RulesDel
import PyProof.Rows.CatchOwn
import PyProof.RulesAs
import PyProof.ExcArgs
import KE.KTurnsDict
import KE.KPairComp
import PyProof.Rows.SortShell
import KE.KDictList
import PyProof.AttrMissSeq
import PyProof.DictUpdate
import PyProof.WalksS
import KE.KEqDict
import PyProof.SumWalkG
import PySem.Challenge.RW_likehalves_k39_texts_that_write_no_frame
set_option compiler.extract_closed false
set_option genSizeOf false
set_option Elab.async false
set_option linter.all false
set_option maxRecDepth 100000
namespace L2
open PySem PySem.Spec PyProof.Rows

noncomputable abbrev Key := Sum Int Str
noncomputable def keyIs : Key → Value → Bool
  | .inl k, v => Value.isInt k v
  | .inr x, v => Value.isStrOf x v
noncomputable def keyH (w : World) : Key → Int
  | .inl k => hashInt k
  | .inr x => hashStr w x
theorem keyIs_shape : ∀ {k : Key} {v : Value}, keyIs k v = true → (∃ i t, k = Sum.inl i ∧ v = Value.int i t) ∨ (∃ x t, k = Sum.inr x ∧ v = Value.str x t)
  | .inl i, v, h => by
    obtain ⟨t, e⟩ := Value.isInt_shape (k := i) (v := v) h
    exact .inl ⟨i, t, rfl, e⟩
  | .inr x, v, h => by
    obtain ⟨t, e⟩ := Value.isStrOf_shape (x := x) (v := v) h
    exact .inr ⟨x, t, rfl, e⟩
theorem key_ll (a b : Int) : decide ((Sum.inl a : Key) = Sum.inl b) = (a == b) := by
  by_cases e : a = b
  · subst e; simp
  · have h : ¬ (Sum.inl a : Key) = Sum.inl b := fun q => e (Sum.inl.inj q)
    rw [decide_eq_false h]
    exact (beq_eq_false_iff_ne.mpr e).symm
theorem key_rr (a b : Str) : decide ((Sum.inr a : Key) = Sum.inr b) = decide (a = b) := by
  by_cases e : a = b
  · subst e; simp
  · have h : ¬ (Sum.inr a : Key) = Sum.inr b := fun q => e (Sum.inr.inj q)
    rw [decide_eq_false h, decide_eq_false e]
theorem key_lr (a : Int) (b : Str) : decide ((Sum.inl a : Key) = Sum.inr b) = false := decide_eq_false (fun q => nomatch q)
theorem key_rl (a : Str) (b : Int) : decide ((Sum.inr a : Key) = Sum.inl b) = false := decide_eq_false (fun q => nomatch q)

noncomputable def mixKind (prog : Program) (w : World) : PySem.KeyKind prog w Key where
  is := keyIs
  hash := keyH w
  inj := fun v a b ha hb => by
    rcases keyIs_shape ha with ⟨i, t, rfl, rfl⟩ | ⟨x, t, rfl, rfl⟩
    · rcases keyIs_shape hb with ⟨j, u, rfl, e⟩ | ⟨y, u, rfl, e⟩
      · injection e with e1 _; rw [e1]
      · exact nomatch e
    · rcases keyIs_shape hb with ⟨j, u, rfl, e⟩ | ⟨y, u, rfl, e⟩
      · exact nomatch e
      · injection e with e1 _; rw [e1]
  byValue := fun k v h => by
    rcases keyIs_shape h with ⟨i, t, rfl, rfl⟩ | ⟨x, t, rfl, rfl⟩ <;> rfl
  pyHash := fun hv h => by
    rcases keyIs_shape hv with ⟨i, t, rfl, rfl⟩ | ⟨x, t, rfl, rfl⟩
    · exact wpAny_pyHash_int h
    · exact wpAny_pyHash_str h
  eqBool := fun hu hv h => by
    rcases keyIs_shape hu with ⟨i, t, rfl, rfl⟩ | ⟨x, t, rfl, rfl⟩
    · rcases keyIs_shape hv with ⟨j, u, rfl, rfl⟩ | ⟨y, u, rfl, rfl⟩
      · rw [key_ll] at h; exact wpAny_eqBool_int h
      · rw [key_lr] at h; exact SeqAt.EqAt.int_str i t y u _ _ _ _ h
    · rcases keyIs_shape hv with ⟨j, u, rfl, rfl⟩ | ⟨y, u, rfl, rfl⟩
      · rw [key_rl] at h; exact SeqAt.EqAt.str_int x t j u _ _ _ _ h
      · rw [key_rr] at h; exact wpAny_eqBool_str h
  «strs» := fun k x t v h => by
    rcases keyIs_shape h with ⟨i, u, rfl, e⟩ | ⟨y, u, rfl, e⟩
    · exact nomatch e
    · injection e with e1 _
      subst e1
      cases v <;> rfl

end L2

namespace L2
open PySem PySem.Spec PyProof.Rows

inductive V where
  | non | bl (b : Bool) | int (i : Int) | str (x : Str) | byt (b : Array UInt8) | flt (b : UInt64) | ref (a : Addr) | ty (n : String)
  deriving DecidableEq

noncomputable def RelV : V → Value → Prop
  | .non, u => u = Value.none
  | .bl b, u => u = Value.bool b
  | .int i, u => ∃ t, u = Value.int i t
  | .str x, u => ∃ t, u = Value.str x t
  | .byt b, u => ∃ t, u = Value.bytes b t
  | .flt b, u => ∃ t, u = Value.float b t
  | .ref a, u => u = Value.ref a
  | .ty n, u => u = Value.type n

noncomputable abbrev Vals : List V → List Value → Prop := Paired RelV
theorem Vals.length {xs : List V} {us : List Value} (r : Vals xs us) : xs.length = us.length := Paired.length r
theorem Vals.get : ∀ {xs : List V} {us : List Value} {i : Nat} {x : V}, Vals xs us → xs[i]? = some x → ∃ u, us[i]? = some u ∧ RelV x u
  | _, _, _, _, .nil, e => by simp at e
  | _, _, 0, _, .cons r _, e => by simp at e; subst e; exact ⟨_, rfl, r⟩
  | _, _, i + 1, x, .cons _ t, e => by
    obtain ⟨u, h1, h2⟩ := Vals.get (i := i) (x := x) t (by simpa using e)
    exact ⟨u, by simpa using h1, h2⟩
theorem Vals.set {x : V} {u : Value} (r : RelV x u) : ∀ {xs : List V} {us : List Value} (i : Nat), Vals xs us → Vals (xs.set i x) (us.set i u)
  | _, _, _, .nil => .nil
  | _, _, 0, .cons _ t => .cons r t
  | _, _, i + 1, .cons q t => .cons q (Vals.set r i t)
theorem Vals.append {xs ys : List V} {us ws : List Value} (a : Vals xs us) (b : Vals ys ws) : Vals (xs ++ ys) (us ++ ws) := by
  induction a with
  | nil => exact b
  | cons r _ ih => exact .cons r ih
theorem Vals.take : ∀ {xs : List V} {us : List Value} (n : Nat), Vals xs us → Vals (xs.take n) (us.take n)
  | _, _, 0, _ => .nil
  | _, _, _ + 1, .nil => .nil
  | _, _, n + 1, .cons r t => .cons r (Vals.take n t)
theorem Vals.drop : ∀ {xs : List V} {us : List Value} (n : Nat), Vals xs us → Vals (xs.drop n) (us.drop n)
  | _, _, 0, r => r
  | _, _, _ + 1, .nil => .nil
  | _, _, n + 1, .cons _ t => Vals.drop n t
theorem Vals.none_of : ∀ {xs : List V} {us : List Value} {i : Nat}, Vals xs us → xs[i]? = none → us[i]? = none := fun {xs us i} r e => by
  have h1 := r.length
  have h2 : xs.length ≤ i := List.getElem?_eq_none_iff.mp e
  exact List.getElem?_eq_none_iff.mpr (by omega)

noncomputable def RelO : Option V → Option Value → Prop
  | some v, some u => RelV v u
  | none, none => True
  | _, _ => False
noncomputable def KV {κ : Type} : List (κ × V) → List (κ × Value) → Prop := Paired fun (p : κ × V) (q : κ × Value) => p.1 = q.1 ∧ RelV p.2 q.2

noncomputable def kV : Key → V
  | .inl i => .int i
  | .inr x => .str x

inductive HO where
  /-- a list -/
  | lst (xs : List V)
  /-- a tuple (never changes) -/
  | tup (xs : List V)
  /-- a dict whose keys are ints and texts; one whose keys are tuples of ints and texts (the empty one is both) -/
  | dK (kvs : List (Key × V)) | dT (kvs : List (List Key × V))
  /-- a set of ints: its members, its size -/
  | set (S : Int → Bool) (n : Nat)
  /-- an instance of the class at C, its dict at dx, its attributes -/
  | ins (C dx : Addr) (fs : List (Str × V))
  /-- the dict of the instance at x -/
  | own (x : Addr)
  /-- the dict of an exception -/
  | xd (fs : List (Str × V))
  /-- a bound method, f of x -/
  | met (f x : Addr)
  /-- a range object lo, lo + 1, .. below hi -/
  | rng (lo hi : Int)
  /-- a thing that is known to the object (the script; a dict while a loop walks it): read, never written while it is so -/
  | frz (o : Obj) (u : HO)
  /-- a code object's table -/
  | tbl (ps : Array Value)
  /-- any other thing, by what is true of its one object (a def of one's own: SetO a S n := HO.ext fun h => ..) -/
  | ext (φ : Heap → Prop)

noncomputable abbrev Hp := Addr → Option HO
noncomputable def upd (H : Hp) (a : Addr) (o : HO) : Hp := fun b => if b = a then some o else H b
theorem upd_same {H : Hp} {a : Addr} {o : HO} : upd H a o a = some o := by unfold upd; rw [if_pos rfl]
theorem upd_ne {H : Hp} {a b : Addr} {o : HO} (h : b ≠ a) : upd H a o b = H b := by unfold upd; rw [if_neg h]
theorem ne_of_none {H : Hp} {a b : Addr} {o : HO} (h : H a = some o) (h' : H b = none) : a ≠ b := by
  intro e; subst e; rw [h] at h'; cases h'

section
variable (P : Program) (w : World)
noncomputable def ObjOk (H : Hp) (h : Heap) (a : Addr) : HO → Prop
  | .lst xs => xs.length ≤ sizeLine ∧ ∃ (its : List Value) (n : Nat), Vals xs its ∧ h.get? a = some { cls := .type "list", data := .seq its.toArray n }
  | .tup xs => xs.length ≤ sizeLine ∧ ∃ its : List Value, Vals xs its ∧ IsTup h a its.toArray
  | .dK kvs => kvs.length ≤ sizeLine ∧ (a == sysModules) = false ∧ ∃ vs, KV kvs vs ∧ h.DictOf (mixKind P w) a vs
  | .dT kvs => kvs.length ≤ sizeLine ∧ (a == sysModules) = false ∧ ∃ xs : List (List Key × Addr × Value),
      Paired (fun (p : List Key × V) (q : List Key × Addr × Value) => p.1 = q.1 ∧ H q.2.1 = some (.tup (p.1.map kV)) ∧ RelV p.2 q.2.2) kvs xs ∧
      ∃ o es ep, h.get? a = some o ∧ o.ExactDict ∧ o.data = .dict es ep ∧ es.toList = xs.map (entryOfKey (tupleKind (mixKind P w))) ∧ (xs.map (·.1)).Nodup
  | .set S n => h.SetOf (intKind P w) a S n
  | .ins C dx fs => H dx = some (.own a) ∧ fs.length ≤ 1000 ∧ dx ≠ a ∧ h.get? a = some (PySem.W.instObj C dx) ∧
      ∃ mA, h.Ns1 dx mA ∧ (∀ f, RelO (fs.lookup f) (mA f)) ∧ PySem.Within mA (fs.map (·.1))
  | .own _ => ∃ o, h.get? a = some o
  | .xd fs => ∃ mA, h.Ns1 a mA ∧ ∀ f, RelO (fs.lookup f) (mA f)
  | .rng lo hi => ∃ t u v, h.get? a = some { cls := .type "range", data := .fields #[.int lo t, .int hi u, .int 1 v] }
  | .frz o u => h.get? a = some o ∧ ObjOk H h a u
  | .tbl ps => h.get? a = some { cls := .none, data := .fields ps }
  | .met f x => h.get? a = some (PySem.W.methodObj (.ref f) (.ref x))
  | .ext φ => φ h ∧ (∃ o, h.get? a = some o) ∧ ∀ h1 h2 : Heap, φ h1 → (∀ o, h1.get? a = some o → h2.get? a = some o) → φ h2
noncomputable def HOk (H : Hp) (h : Heap) : Prop := ∀ a o, H a = some o → ObjOk P w H h a o
end

section
variable {P : Program} {w : World} {H H' : Hp} {h h' : Heap} {a : Addr} {o : HO}
theorem ObjOk.lt (x : ObjOk P w H h a o) : a < h.objs.size := by
  cases o with
  | lst xs => obtain ⟨_, _, _, _, e⟩ := x; exact Heap.lt_size e
  | tup xs => obtain ⟨_, _, _, p⟩ := x; exact p.lt
  | dK kvs => obtain ⟨_, _, _, _, o, _, _, e, _⟩ := x; exact Heap.lt_size e
  | dT kvs => obtain ⟨_, _, _, _, o, _, _, e, _⟩ := x; exact Heap.lt_size e
  | set S n => obtain ⟨o, _, _, _, e, _⟩ := x; exact Heap.lt_size e
  | ins C dx fs => obtain ⟨_, _, _, e, _⟩ := x; exact Heap.lt_size e
  | own y => obtain ⟨_, e⟩ := x; exact Heap.lt_size e
  | xd fs => obtain ⟨_, ⟨_, _, _, e, _⟩, _⟩ := x; exact Heap.lt_size e
  | rng lo hi => obtain ⟨_, _, _, e⟩ := x; exact Heap.lt_size e
  | frz ob u => obtain ⟨e, _⟩ := x; exact Heap.lt_size e
  | tbl ps => exact Heap.lt_size (show h.get? a = some _ from x)
  | met f y => exact Heap.lt_size (show h.get? a = some _ from x)
  | ext φ => obtain ⟨_, ⟨_, e⟩, _⟩ := x; exact Heap.lt_size e
theorem Paired.mapP {α β : Type} {F G : α → β → Prop} {l₁ : List α} {l₂ : List β} (h : Paired F l₁ l₂) (f : ∀ a b, F a b → G a b) : Paired G l₁ l₂ := by
  induction h with
  | nil => exact .nil
  | cons r _ ih => exact .cons (f _ _ r) ih
theorem ObjOk.stay (x : ObjOk P w H h a o) (k : ∀ b u, (b = a ∨ H b = some (.own a)) → h.get? b = some u → h'.get? b = some u)
    (ho : ∀ b, H b = some (.own a) → H' b = some (.own a)) (ht : ∀ b xs, H b = some (.tup xs) → H' b = some (.tup xs)) : ObjOk P w H' h' a o := by
  induction o with
  | lst xs => obtain ⟨z, its, n, r, e⟩ := x; exact ⟨z, its, n, r, k _ _ (.inl rfl) e⟩
  | tup xs => obtain ⟨z, its, r, ob, e, c⟩ := x; exact ⟨z, its, r, ob, k _ _ (.inl rfl) e, c⟩
  | dK kvs => obtain ⟨z, y, vs, r, ob, es, ep, e, c⟩ := x; exact ⟨z, y, vs, r, ob, es, ep, k _ _ (.inl rfl) e, c⟩
  | dT kvs =>
    obtain ⟨z, y, xs, r, ob, es, ep, e, c⟩ := x
    exact ⟨z, y, xs, Paired.mapP r fun p q z => ⟨z.1, ht _ _ z.2.1, z.2.2⟩, ob, es, ep, k _ _ (.inl rfl) e, c⟩
  | set S n => obtain ⟨ob, es, ep, t, e, c⟩ := x; exact ⟨ob, es, ep, t, k _ _ (.inl rfl) e, c⟩
  | ins C dx fs =>
    obtain ⟨d, z, ne, e, mA, ⟨od, es, ep, e2, c⟩, r⟩ := x
    exact ⟨ho _ d, z, ne, k _ _ (.inl rfl) e, mA, ⟨od, es, ep, k _ _ (.inr d) e2, c⟩, r⟩
  | own y => obtain ⟨ob, e⟩ := x; exact ⟨ob, k _ _ (.inl rfl) e⟩
  | xd fs => obtain ⟨mA, ⟨od, es, ep, e, c⟩, r⟩ := x; exact ⟨mA, ⟨od, es, ep, k _ _ (.inl rfl) e, c⟩, r⟩
  | rng lo hi => obtain ⟨t, u, v, e⟩ := x; exact ⟨t, u, v, k _ _ (.inl rfl) e⟩
  | frz ob u ih => obtain ⟨e, q⟩ := x; exact ⟨k _ _ (.inl rfl) e, ih q⟩
  | tbl ps =>
    have e : h.get? a = some { cls := .none, data := .fields ps } := x
    show h'.get? a = some { cls := .none, data := .fields ps }
    exact k a _ (.inl rfl) e
  | met f y =>
    have e : h.get? a = some (PySem.W.methodObj (.ref f) (.ref y)) := x
    show h'.get? a = some (PySem.W.methodObj (.ref f) (.ref y))
    exact k a _ (.inl rfl) e
  | ext φ => obtain ⟨p, ⟨o, e⟩, st⟩ := x; exact ⟨st _ _ p fun o q => k _ _ (.inl rfl) q, ⟨o, k _ _ (.inl rfl) e⟩, st⟩
theorem HOk.lt (x : HOk P w H h) (e : H a = some o) : a < h.objs.size := (x a o e).lt
theorem HOk.fresh (x : HOk P w H h) (e : h.objs.size ≤ a) : H a = none := by
  cases q : H a with
  | none => rfl
  | some u => exact absurd (Nat.lt_of_lt_of_le (x.lt q) e) (Nat.lt_irrefl _)
theorem HOk.kept (x : HOk P w H h) (k : ∀ b u, h.get? b = some u → h'.get? b = some u) : HOk P w H h' := fun a o e =>
  (x a o e).stay (fun b u _ q => k b u q) (fun _ q => q) fun _ _ q => q
theorem HOk.laid (x : HOk P w H h) (k : ∀ b u, h.get? b = some u → h'.get? b = some u) (hp : h.objs.size ≤ a) (new : ObjOk P w (upd H a o) h' a o) : HOk P w (upd H a o) h' := fun b u e => by
  have hn := x.fresh hp
  by_cases hb : b = a
  · subst hb; rw [upd_same] at e; cases e; exact new
  · rw [upd_ne hb] at e
    exact (x b u e).stay (fun c v _ q => k c v q) (fun c q => by rw [upd_ne (ne_of_none q hn)]; exact q) fun c xs q => by rw [upd_ne (ne_of_none q hn)]; exact q
end

noncomputable def Rd (H : Hp) (a : Addr) (u : HO) : Prop := H a = some u ∨ ∃ o, H a = some (.frz o u)
theorem Rd.ok {P : Program} {w : World} {H : Hp} {h : Heap} {a : Addr} {u : HO} (r : Rd H a u) (x : HOk P w H h) : ObjOk P w H h a u := by
  rcases r with r | ⟨o, r⟩
  · exact x a u r
  · obtain ⟨_, q⟩ := x a _ r
    exact q
noncomputable def Mut : Option HO → Prop
  | some (.lst _) => True
  | some (.dK _) => True
  | some (.dT _) => True
  | some (.set _ _) => True
  | some (.ins _ _ _) => True
  | some (.ext _) => True
  | _ => False
section
variable {P : Program} {w : World} {H : Hp} {h h' : Heap} {x e : Addr} {o' : HO}
theorem HOk.write (ok : HOk P w H h) (mu : Mut (H x)) (he : e = x ∨ H e = some (.own x)) (k : ∀ b u, b ≠ e → h.get? b = some u → h'.get? b = some u) (heo : ∃ u, h'.get? e = some u)
    (new : ObjOk P w (upd H x o') h' x o') : HOk P w (upd H x o') h' := fun b u q => by
  have nown : ∀ c y, H c = some (.own y) → c ≠ x := fun c y r z => by subst z; rw [r] at mu; exact mu
  have ntup : ∀ c xs, H c = some (.tup xs) → c ≠ x := fun c xs r z => by subst z; rw [r] at mu; exact mu
  by_cases hb : b = x
  · subst hb; rw [upd_same] at q; cases q; exact new
  · rw [upd_ne hb] at q
    by_cases hbe : b = e
    · have q' : H b = some (.own x) := by
        rcases he with z | z
        · exact absurd (hbe.trans z) hb
        · rw [hbe]; exact z
      rw [q] at q'; cases q'
      obtain ⟨v, hv⟩ := heo
      exact ⟨v, by rw [hbe]; exact hv⟩
    · refine (ok b u q).stay (fun c v hc r => k c v ?_ r) (fun c r => by rw [upd_ne (nown c b r)]; exact r) fun c xs r => by rw [upd_ne (ntup c xs r)]; exact r
      rcases hc with rfl | hc
      · exact hbe
      · rintro rfl
        rcases he with z | z
        · exact nown c b hc z
        · rw [hc] at z; cases z; exact hb rfl
end

structure Un (fs ex : List Addr) (H H' : Hp) (h h' : Heap) : Prop where
  keep : ∀ b o, h.get? b = some o → H b = none → b ∉ fs → b ∉ ex → h'.get? b = some o
  slot : ∀ b o, h.get? b = some o → H b = none → b ∈ fs → b ∉ ex → ∃ sl, h'.get? b = some { o with slots := sl }
  free : ∀ b o, h.get? b = some o → H b = none → b ∉ ex → H' b = none
  there : ∀ b o, h.get? b = some o → b ∉ ex → ∃ o', h'.get? b = some o'
  tups : ∀ b xs, H b = some (.tup xs) → H' b = some (.tup xs)
  frzs : ∀ b o u, H b = some (.frz o u) → H' b = some (.frz o u)
  tbls : ∀ b ps, H b = some (.tbl ps) → ∃ more, H' b = some (.tbl (ps ++ more))
section
variable {fs fs' ex ex' : List Addr} {H H1 H2 : Hp} {h h1 h2 h' : Heap} {a x e : Addr} {o : HO}
theorem Un.any (u : Un fs ex H H1 h h1) {b : Addr} {ob : Obj} (q : h.get? b = some ob) (n : H b = none) (hx : b ∉ ex) : ∃ sl, h1.get? b = some { ob with slots := sl } := by
  by_cases hb : b ∈ fs
  · exact u.slot b ob q n hb hx
  · exact ⟨ob.slots, u.keep b ob q n hb hx⟩
theorem Un.kept (k : ∀ b u, h.get? b = some u → h'.get? b = some u) : Un fs ex H H h h' :=
  ⟨fun b ob q _ _ _ => k b ob q, fun b ob q _ _ _ => ⟨ob.slots, k b ob q⟩, fun _ _ _ n _ => n, fun b ob q _ => ⟨ob, k b ob q⟩, fun _ _ q => q, fun _ _ _ q => q, fun _ ps q => ⟨#[], by rw [q]; simp⟩⟩
theorem Un.refl : Un fs ex H H h h := Un.kept fun _ _ q => q
theorem Un.laid (k : ∀ b u, h.get? b = some u → h'.get? b = some u) (hp : h.objs.size ≤ a) (hn : H a = none) : Un fs ex H (upd H a o) h h' where
  keep := fun b u q _ _ _ => k b u q
  slot := fun b u q _ _ _ => ⟨u.slots, k b u q⟩
  free := fun b u q n _ => by rw [upd_ne (Nat.ne_of_lt (Nat.lt_of_lt_of_le (Heap.lt_size q) hp))]; exact n
  there := fun b u q _ => ⟨u, k b u q⟩
  tups := fun b xs q => by rw [upd_ne (ne_of_none q hn)]; exact q
  frzs := fun b u xs q => by rw [upd_ne (ne_of_none q hn)]; exact q
  tbls := fun b ps q => ⟨#[], by rw [upd_ne (ne_of_none q hn), q]; simp⟩
theorem Un.write (mu : Mut (H x)) (he : e = x ∨ H e = some (.own x)) (k : ∀ b u, b ≠ e → h.get? b = some u → h'.get? b = some u) (heo : ∃ u, h'.get? e = some u) : Un fs ex H (upd H x o) h h' := by
  have hx : ∀ b, H b = none → b ≠ x := fun b n z => by subst z; rw [n] at mu; exact mu
  have hb : ∀ b, H b = none → b ≠ e := fun b n z => by
    subst z
    rcases he with r | r
    · exact hx b n r
    · rw [n] at r; cases r
  have hm : ∀ b u, H b = some u → ¬ Mut (some u) → b ≠ x := fun b u q nm z => by subst z; rw [q] at mu; exact nm mu
  refine ⟨fun b u q n _ _ => k b u (hb b n) q, fun b u q n _ _ => ⟨u.slots, k b u (hb b n) q⟩, fun b u q n _ => by rw [upd_ne (hx b n)]; exact n, fun b u q _ => ?_,
    fun b xs q => by rw [upd_ne (hm b _ q fun z => z)]; exact q, fun b u xs q => by rw [upd_ne (hm b _ q fun z => z)]; exact q, fun b ps q => ⟨#[], by rw [upd_ne (hm b _ q fun z => z), q]; simp⟩⟩
  by_cases hbe : b = e
  · subst hbe; exact heo
  · exact ⟨u, k b u hbe q⟩
end

noncomputable def trk (h : Heap) (H : Hp) : List Addr := (List.range h.objs.size).filter fun a => (H a).isSome
noncomputable def hidT (h : Heap) (H : Hp) : Heap := PySem.W.hideAll h (trk h H)
theorem hidT_size (h : Heap) (H : Hp) : (hidT h H).objs.size = h.objs.size := PySem.W.hideAll_size _ _
theorem hidT_get {h : Heap} {H : Hp} {b : Addr} {o : Obj} (e : h.get? b = some o) (n : H b = none) : (hidT h H).get? b = some o :=
  PySem.W.hideAll_get _ e fun hm => by
    have q : (H b).isSome = true := (List.mem_filter.mp hm).2
    rw [n] at q; simp at q
theorem of_hidT {h : Heap} {H : Hp} {b : Addr} {o : Obj} (e : (hidT h H).get? b = some o) : h.get? b = some o ∧ H b = none := by
  have e' : h.get? b = some o := PySem.W.of_hideAll (trk h H) e
  refine ⟨e', ?_⟩
  cases q : H b with
  | none => rfl
  | some x =>
    have hm : b ∈ trk h H := List.mem_filter.mpr ⟨List.mem_range.mpr (Heap.lt_size e'), by simp [q]⟩
    have z : (hidT h H).get? b = none := PySem.W.hideAll_none (trk h H) hm
    rw [z] at e; cases e

noncomputable def allNews (g h : Heap) (L : Addr) : List (Addr × Obj) := (List.range h.objs.size).filterMap fun a => if a = L ∨ (g.get? a).isSome = true then none else (h.get? a).map fun o => (a, o)
noncomputable def rest (g h : Heap) (L d : Addr) : List (Addr × Obj) := (allNews g h L).filter fun p => decide (p.1 ≠ d)
end L2

namespace L2
open PySem PySem.Spec PyProof.Rows

structure Mod (K : PySem.W.Frag) (mg : Str → Option Value) (base : Heap) : Prop where
  kin : K.In base
  glob : base.Ns mainGlobals mg
  blt : ∃ mb, base.Ns builtinsNs mb ∧ ∀ x : Str, x ≠ "__name__" → mb x = bootBuiltins x
  nolimit : base.NoLimit

structure Cx where
  prog : Program
  w : World
  K : PySem.W.Frag
  mg : Str → Option Value
  base : Heap
  A : Around
  N : List Str
  s₀ : Shared
  H₀ : Hp
  env : Env
  outer : List Env
  stack : List Env
  ex : List Addr
  fn : Str → Bool
  calm : Bool
  pn : List (Addr × Obj)
  xe : Value → Shared → Prop
noncomputable def frs (l : List Env) : List Addr := l.filterMap (·.frame)
noncomputable abbrev Cx.fs (X : Cx) : List Addr := frs X.outer

noncomputable def Vis (sc : Scope) (x : Str) : Prop := sc.names.lookup x = some .local ∨ sc.names.lookup x = some .cell ∨ sc.names.lookup x = some .free
noncomputable def Loc (sc : Scope) (x : Str) : Prop := sc.names.lookup x = some .local ∨ sc.names.lookup x = some .cell
noncomputable def Look (env : Env) (h : Heap) (m : Str → Option Value) (x : Str) (u : Value) : Prop :=
  (env.kindOf x = some .local ∧ m x = some u) ∨ ((env.kindOf x = some .cell ∨ env.kindOf x = some .free) ∧ ∃ c, env.cells.lookup x = some c ∧ h.IsCell c (some u))

structure Cx.Ok (X : Cx) : Prop where
  mod : Mod X.K X.mg X.base
  kind : X.env.scope.kind = .function
  glob : X.env.globals = mainGlobals
  blt : X.env.builtins = builtinsNs
  above : X.s₀.heap.objs.size ≤ X.env.locals
  inj : ∀ x y c, X.env.cells.lookup x = some c → X.env.cells.lookup y = some c → x = y
  has : ∀ x, (X.env.kindOf x = some .cell ∨ X.env.kindOf x = some .free) → ∃ c, X.env.cells.lookup x = some c
  cab : ∀ x c, X.fn x = true → X.env.cells.lookup x = some c → X.s₀.heap.objs.size ≤ c
  hd : X.calm = true → X.A.handled = none
  frames : X.A.frames = some X.stack
  stk : X.stack = X.outer ∨ (X.stack = X.env :: X.outer ∧ X.env.frame = some X.env.locals)
  exf : ∀ b ∈ X.ex, b ≠ X.env.locals ∧ ∀ x c, X.env.cells.lookup x = some c → c ≠ b
  bs : ∀ b o, X.base.get? b = some o → X.s₀.heap.get? b = some o ∧ X.H₀ b = none
  bsz : X.base.objs.size ≤ X.s₀.heap.objs.size
  noex : ∀ b o, X.base.get? b = some o → b ∉ X.ex
  exfs : ∀ b ∈ X.ex, b ∉ X.fs
  funs : X.s₀.heap.FunFrames X.base X.outer
  frf : ∀ b ∈ X.fs, X.H₀ b = none

structure Inv (X : Cx) (pins : List (Addr × Obj)) (σ : List (Option V)) (H : Hp) (s : Shared) : Prop where
  ok : X.Ok
  os : s.os = X.s₀.os
  bare : AllBare s.gens
  base : Un X.fs X.ex X.H₀ H X.s₀.heap s.heap
  loc : ∃ m, s.heap.Ns X.env.locals m ∧ ∀ (i : Nat) (x : Str) (v : V), X.N[i]? = some x → σ[i]? = some (some v) → Vis X.env.scope x → ∃ u, RelV v u ∧ Look X.env s.heap m x u
  cell : ∀ x c, X.env.cells.lookup x = some c → ∃ v, s.heap.IsCell c v
  free : H X.env.locals = none
  freeC : ∀ x c, X.env.cells.lookup x = some c → H c = none
  pin : ∀ p ∈ X.pn ++ pins, s.heap.get? p.1 = some p.2 ∧ H p.1 = none ∧ p.1 ≠ X.env.locals ∧ p.1 ∉ X.fs ∧ ∀ v, p.2.data ≠ .cell v
  hok : HOk X.prog X.w H s.heap
  len : σ.length = X.N.length

section
variable {X : Cx} {pins : List (Addr × Obj)} {σ : List (Option V)} {H H' : Hp} {s : Shared} {h' : Heap}

theorem Cx.Ok.nofr (ok : X.Ok) {b : Addr} {o : Obj} (e : X.base.get? b = some o) : b ∉ X.fs := fun hb => by
  have := (ok.funs.mem hb).1
  rw [e] at this; cases this
theorem Inv.bs (I : Inv X pins σ H s) : ∀ b o, X.base.get? b = some o → s.heap.get? b = some o ∧ H b = none := fun b o e =>
  ⟨I.base.keep b o (I.ok.bs b o e).1 (I.ok.bs b o e).2 (I.ok.nofr e) (I.ok.noex b o e), I.base.free b o (I.ok.bs b o e).1 (I.ok.bs b o e).2 (I.ok.noex b o e)⟩
theorem Inv.bk (I : Inv X pins σ H s) : ∀ b o, X.base.get? b = some o → s.heap.get? b = some o := fun b o e => (I.bs b o e).1
theorem Inv.mod (I : Inv X pins σ H s) : Mod X.K X.mg X.base := I.ok.mod
theorem Inv.kIn (I : Inv X pins σ H s) : X.K.In s.heap := I.ok.mod.kin.keeps I.bk
theorem Inv.fr (I : Inv X pins σ H s) : ∃ m, Fr X.base X.env.locals s.heap m :=
  let ⟨m, hn, _⟩ := I.loc
  ⟨m, hn, I.bk, Nat.le_trans I.ok.bsz I.ok.above⟩
theorem Inv.lt (I : Inv X pins σ H s) : X.env.locals < s.heap.objs.size := let ⟨_, hn, _⟩ := I.loc; hn.lt
theorem Inv.sz (I : Inv X pins σ H s) : X.s₀.heap.objs.size ≤ s.heap.objs.size := Nat.le_trans I.ok.above (Nat.le_of_lt I.lt)
theorem Inv.nofs (I : Inv X pins σ H s) {a : Addr} (h : s.heap.objs.size ≤ a) : a ∉ X.fs := fun hb => by
  obtain ⟨_, o, ho, _⟩ := I.ok.funs.mem hb
  exact absurd (Nat.lt_of_lt_of_le (Heap.lt_size ho) (Nat.le_trans I.sz h)) (Nat.lt_irrefl _)
theorem Inv.cne (I : Inv X pins σ H s) : ∀ x c, X.env.cells.lookup x = some c → c ≠ X.env.locals := fun x c e z => by
  obtain ⟨v, o, ho, hd⟩ := I.cell x c e
  obtain ⟨m, ⟨o', es, ep, ho', hd', _⟩, _⟩ := I.loc
  rw [z, ho'] at ho; cases ho; rw [hd'] at hd; cases hd
theorem Inv.funs (I : Inv X pins σ H s) : s.heap.FunFrames X.base X.outer := by
  have all : ∀ (l : List Env), (∀ b ∈ frs l, b ∈ X.fs) → X.s₀.heap.FunFrames X.base l → s.heap.FunFrames X.base l := by
    intro l
    induction l with
    | nil => intro _ _; trivial
    | cons env r ih =>
      intro hs hl
      obtain ⟨hk, ⟨L, o, hf, hn, ho, hd⟩, hr⟩ := hl
      have hL : L ∈ X.fs := hs L (by unfold frs; rw [List.filterMap_cons, hf]; exact List.mem_cons_self)
      obtain ⟨sl, e⟩ := I.base.slot L o ho (I.ok.frf L hL) hL fun z => I.ok.exfs L z hL
      exact ⟨hk, ⟨L, _, hf, hn, e, hd⟩, ih (fun b hb => hs b (by unfold frs; rw [List.filterMap_cons, hf]; exact List.mem_cons_of_mem _ hb)) hr⟩
  exact all X.outer (fun _ hb => hb) I.ok.funs

theorem Inv.stack (I : Inv X pins σ H s) : s.heap.FunFrames X.base X.stack := by
  rcases I.ok.stk with e | ⟨e, hf⟩
  · rw [e]; exact I.funs
  · rw [e]
    obtain ⟨m, hn, _⟩ := I.loc
    refine .cons (by rw [I.ok.kind]; decide) hf hn ?_ I.funs
    exact Heap.get?_none_of_le (Nat.le_trans I.ok.bsz I.ok.above)
theorem Inv.stkSub (I : Inv X pins σ H s) : ∀ b ∈ frs X.stack, b ∈ X.env.locals :: X.fs := fun b hb => by
  rcases I.ok.stk with e | ⟨e, hf⟩
  · rw [e] at hb; exact List.mem_cons_of_mem _ hb
  · rw [e] at hb
    unfold frs at hb
    rw [List.filterMap_cons, hf] at hb
    exact hb
theorem Inv.stkFree (I : Inv X pins σ H s) : ∀ b ∈ frs X.stack, H b = none := fun b hb => by
  rcases List.mem_cons.mp (I.stkSub b hb) with e | hb
  · rw [e]; exact I.free
  · obtain ⟨_, o, ho, _⟩ := I.ok.funs.mem hb
    exact I.base.free b o ho (I.ok.frf b hb) fun z => I.ok.exfs b z hb

theorem Inv.step {g' : Array GenState} {t' : Nat} {d' : Drawn} {ch : List Addr} (I : Inv X pins σ H s)
    (hch : ∀ b ∈ ch, (b ∈ X.ex ∨ X.s₀.heap.objs.size ≤ b) ∧ b ≠ X.env.locals ∧ (∀ x c, X.env.cells.lookup x = some c → c ≠ b) ∧ ∀ p ∈ X.pn ++ pins, p.1 ≠ b)
    (keep : ∀ b o, b ≠ X.env.locals → b ∉ X.fs → b ∉ ch → s.heap.get? b = some o → H b = none → h'.get? b = some o)
    (slot : ∀ b o, b ≠ X.env.locals → b ∈ X.fs → b ∉ ch → s.heap.get? b = some o → H b = none → ∃ sl, h'.get? b = some { o with slots := sl }) (free : ∀ b o, b ∉ ch → s.heap.get? b = some o → H b = none → H' b = none)
    (there : ∀ b o, b ∉ ch → s.heap.get? b = some o → ∃ o', h'.get? b = some o')
    (tups : ∀ b xs, H b = some (.tup xs) → H' b = some (.tup xs)) (frzs : ∀ b o u, H b = some (.frz o u) → H' b = some (.frz o u)) (tbls : ∀ b ps, H b = some (.tbl ps) → ∃ more, H' b = some (.tbl (ps ++ more)))
    (ns : ∀ m, s.heap.Ns X.env.locals m → h'.Ns X.env.locals m) (hok : HOk X.prog X.w H' h') (hg : AllBare g') :
    Inv X pins σ H' { s with heap := h', gens := g', drawn := d', toks := t' } := by
  have neL : ∀ b o, X.s₀.heap.get? b = some o → b ≠ X.env.locals := fun b o e => Nat.ne_of_lt (Nat.lt_of_lt_of_le (Heap.lt_size e) I.ok.above)
  have neC : ∀ b o, X.s₀.heap.get? b = some o → b ∉ X.ex → b ∉ ch := fun b o e hx hb => by
    rcases (hch b hb).1 with z | z
    · exact hx z
    · exact absurd (Nat.lt_of_lt_of_le (Heap.lt_size e) z) (Nat.lt_irrefl _)
  have cellK : ∀ x c, X.env.cells.lookup x = some c → ∀ v, s.heap.IsCell c v → h'.IsCell c v := fun x c e v ⟨o, ho, hd⟩ => by
    have nch : c ∉ ch := fun z => (hch c z).2.2.1 x c e rfl
    by_cases hc : c ∈ X.fs
    · obtain ⟨sl, q⟩ := slot c o (I.cne x c e) hc nch ho (I.freeC x c e)
      exact ⟨_, q, hd⟩
    · exact ⟨o, keep c o (I.cne x c e) hc nch ho (I.freeC x c e), hd⟩
  refine ⟨I.ok, I.os, hg, ⟨fun b o e n hb hx => ?_, fun b o e n hb hx => ?_, fun b o e n hx => ?_, fun b o e hx => ?_, fun b xs e => tups b xs (I.base.tups b xs e), fun b o xs e => frzs b o xs (I.base.frzs b o xs e), fun b ps e => ?_⟩, ?_, fun x c e => ?_, ?_, fun x c e => ?_, fun p hp => ?_, hok, I.len⟩
  · exact keep b o (neL b o e) hb (neC b o e hx) (I.base.keep b o e n hb hx) (I.base.free b o e n hx)
  · obtain ⟨sl, e1⟩ := I.base.slot b o e n hb hx
    obtain ⟨sl', e2⟩ := slot b _ (neL b o e) hb (neC b o e hx) e1 (I.base.free b o e n hx)
    exact ⟨sl', e2⟩
  · obtain ⟨o', e1⟩ := I.base.there b o e hx
    exact free b o' (neC b o e hx) e1 (I.base.free b o e n hx)
  · obtain ⟨o', e1⟩ := I.base.there b o e hx
    exact there b o' (neC b o e hx) e1
  · obtain ⟨m1, e1⟩ := I.base.tbls b ps e
    obtain ⟨m2, e2⟩ := tbls b _ e1
    exact ⟨m1 ++ m2, by rw [e2, Array.append_assoc]⟩
  · obtain ⟨m, hn, hl⟩ := I.loc
    refine ⟨m, ns m hn, fun i x v e1 e2 e3 => ?_⟩
    obtain ⟨u, r, l⟩ := hl i x v e1 e2 e3
    refine ⟨u, r, ?_⟩
    rcases l with l | ⟨k, c, e, z⟩
    · exact .inl l
    · exact .inr ⟨k, c, e, cellK x c e _ z⟩
  · obtain ⟨v, z⟩ := I.cell x c e
    exact ⟨v, cellK x c e v z⟩
  · obtain ⟨m, ⟨o, _, _, ho, _⟩, _⟩ := I.loc
    exact free _ o (fun z => (hch _ z).2.1 rfl) ho I.free
  · obtain ⟨v, o, ho, hd⟩ := I.cell x c e
    exact free c o (fun z => (hch c z).2.2.1 x c e rfl) ho (I.freeC x c e)
  · obtain ⟨e, n, ne, nf, d⟩ := I.pin p hp
    have nch : p.1 ∉ ch := fun z => (hch p.1 z).2.2.2 p hp rfl
    exact ⟨keep p.1 p.2 ne nf nch e n, free p.1 p.2 nch e n, ne, nf, d⟩
theorem Inv.un {t' : Nat} (I : Inv X pins σ H s) (u : Un X.fs [] H H' s.heap h') (hok : HOk X.prog X.w H' h') : Inv X pins σ H' { s with heap := h', toks := t' } := by
  obtain ⟨m, ⟨o, es, ep, ho, r⟩, _⟩ := id I.loc
  obtain ⟨sl, hL⟩ := u.any ho I.free (by simp)
  exact I.step (g' := s.gens) (d' := s.drawn) (ch := []) (fun _ z => nomatch z) (fun b o _ hb _ e n => u.keep b o e n hb (by simp)) (fun b o _ hb _ e n => u.slot b o e n hb (by simp)) (fun b o _ e n => u.free b o e n (by simp)) (fun b o _ e => u.there b o e (by simp)) u.tups u.frzs u.tbls (fun m' hm => by
    obtain ⟨o', es', ep', ho', r'⟩ := hm
    rw [ho] at ho'; cases ho'
    exact ⟨_, es', ep', hL, r'⟩) hok I.bare
theorem Inv.call {g' : Array GenState} {t' : Nat} {d' : Drawn} {ch : List Addr} (I : Inv X pins σ H s) (u : Un (frs X.stack) ch H H' s.heap h') (hok : HOk X.prog X.w H' h') (hg : AllBare g')
    (hch : ∀ b ∈ ch, (b ∈ X.ex ∨ X.s₀.heap.objs.size ≤ b) ∧ b ≠ X.env.locals ∧ (∀ x c, X.env.cells.lookup x = some c → c ≠ b) ∧ ∀ p ∈ X.pn ++ pins, p.1 ≠ b) :
    Inv X pins σ H' { s with heap := h', gens := g', drawn := d', toks := t' } := by
  obtain ⟨m, ⟨o, es, ep, ho, r⟩, _⟩ := id I.loc
  obtain ⟨sl, hL⟩ := u.any ho I.free fun z => (hch _ z).2.1 rfl
  exact I.step (ch := ch) hch (fun b o hL hb hc e n => u.keep b o e n (fun z => (List.mem_cons.mp (I.stkSub b z)).elim hL hb) hc) (fun b o _ _ hc e n => u.any e n hc) (fun b o hc e n => u.free b o e n hc) (fun b o hc e => u.there b o e hc) u.tups u.frzs u.tbls (fun m' hm => by
    obtain ⟨o', es', ep', ho', r'⟩ := hm
    rw [ho] at ho'; cases ho'
    exact ⟨_, es', ep', hL, r'⟩) hok hg
theorem Inv.turned {t' : Nat} {it : Addr} (I : Inv X pins σ H s) (k : ∀ b o, b ≠ it → s.heap.get? b = some o → h'.get? b = some o) (hn : H it = none) (hL : it ≠ X.env.locals)
    (h1 : it ∈ X.ex ∨ X.s₀.heap.objs.size ≤ it) (h2 : ∀ x c, X.env.cells.lookup x = some c → c ≠ it) (h3 : ∀ p ∈ X.pn ++ pins, p.1 ≠ it) : Inv X pins σ H { s with heap := h', toks := t' } := by
  have nit : ∀ b u, H b = some u → b ≠ it := fun b u e z => by rw [z, hn] at e; cases e
  refine I.step (g' := s.gens) (d' := s.drawn) (ch := [it]) (fun b hb => ?_) (fun b o _ _ hc e _ => k b o (fun z => hc (by simp [z])) e) (fun b o _ _ hc e _ => ⟨o.slots, k b o (fun z => hc (by simp [z])) e⟩) (fun _ _ _ _ n => n)
    (fun b o hc e => ⟨o, k b o (fun z => hc (by simp [z])) e⟩) (fun _ _ e => e) (fun _ _ _ e => e) (fun b ps e => ⟨#[], by rw [e]; simp⟩) (fun m hm => ?_) (fun b u e => ?_) I.bare
  · have e : b = it := by simpa using hb
    subst e
    exact ⟨h1, hL, h2, h3⟩
  · obtain ⟨o, es, ep, ho, r⟩ := hm
    exact ⟨o, es, ep, k _ o (Ne.symm hL) ho, r⟩
  · refine (I.hok b u e).stay (fun c v hc q => k c v ?_ q) (fun _ q => q) fun _ _ q => q
    rcases hc with z | z
    · rw [z]; exact nit b u e
    · exact nit c _ z
theorem Inv.tok (I : Inv X pins σ H s) (t : Nat) : Inv X pins σ H { s with toks := t } := I.un (h' := s.heap) (t' := t) Un.refl I.hok
theorem Inv.kept {t' : Nat} (I : Inv X pins σ H s) (k : ∀ b u, s.heap.get? b = some u → h'.get? b = some u) : Inv X pins σ H { s with heap := h', toks := t' } := I.un (Un.kept k) (I.hok.kept k)
theorem Inv.laid {a : Addr} {o : HO} {t' : Nat} (I : Inv X pins σ H s) (k : ∀ b u, s.heap.get? b = some u → h'.get? b = some u) (hp : s.heap.objs.size ≤ a) (new : ObjOk X.prog X.w (upd H a o) h' a o) :
    Inv X pins σ (upd H a o) { s with heap := h', toks := t' } := I.un (Un.laid k hp (I.hok.fresh hp)) (I.hok.laid k hp new)
theorem Inv.write {x e : Addr} {o : HO} {t' : Nat} (I : Inv X pins σ H s) (mu : Mut (H x)) (he : e = x ∨ H e = some (.own x)) (k : ∀ b u, b ≠ e → s.heap.get? b = some u → h'.get? b = some u) (heo : ∃ u, h'.get? e = some u)
    (new : ObjOk X.prog X.w (upd H x o) h' x o) : Inv X pins σ (upd H x o) { s with heap := h', toks := t' } := I.un (Un.write mu he k heo) (I.hok.write mu he k heo new)
theorem Inv.weak {σ' : List (Option V)} (I : Inv X pins σ H s) (hl : σ'.length = σ.length) (w : ∀ (i : Nat) v, σ'[i]? = some (some v) → σ[i]? = some (some v)) : Inv X pins σ' H s :=
  ⟨I.ok, I.os, I.bare, I.base, let ⟨m, hn, hl'⟩ := I.loc; ⟨m, hn, fun i x v e1 e2 e3 => hl' i x v e1 (w i v e2) e3⟩, I.cell, I.free, I.freeC, I.pin, I.hok, hl.trans I.len⟩
theorem Inv.pins_of {pins' : List (Addr × Obj)} (I : Inv X pins σ H s) (h : ∀ p ∈ pins', s.heap.get? p.1 = some p.2 ∧ H p.1 = none ∧ p.1 ≠ X.env.locals ∧ p.1 ∉ X.fs ∧ ∀ v, p.2.data ≠ .cell v) : Inv X pins' σ H s :=
  ⟨I.ok, I.os, I.bare, I.base, I.loc, I.cell, I.free, I.freeC, fun p hp => (List.mem_append.mp hp).elim (fun z => I.pin p (List.mem_append_left _ z)) (h p), I.hok, I.len⟩

theorem nodup_ix {N : List Str} (hN : N.Nodup) {i j : Nat} {x : Str} (a : N[i]? = some x) (b : N[j]? = some x) : i = j := by
  obtain ⟨h1, e1⟩ := List.getElem?_eq_some_iff.mp a
  obtain ⟨h2, e2⟩ := List.getElem?_eq_some_iff.mp b
  exact (List.getElem_inj hN).mp (e1.trans e2.symm)

theorem store_ok2 {M : Model} {A : Around} {E : Value → Shared → Prop} {i : Nat} {x : Str} {v : V} {u : Value} {Q : Unit → Shared → Prop} (I : Inv X pins σ H s) (hN : X.N.Nodup) (hi : X.N[i]? = some x) (hx : Loc X.env.scope x) (r : RelV v u)
    (h : ∀ s', Inv X pins (σ.set i (some v)) H s' → (∃ a, Heap.SameBut a s.heap s'.heap ∧ (a = X.env.locals ∨ X.env.cells.lookup x = some a)) → Q () s') (hf : X.fn x = true ∨ X.env.scope.names.lookup x = some .local := by first | exact .inl rfl | exact .inr rfl | assumption) : wpAny M A (storeName X.env x u) Q E s := by
  obtain ⟨m, hn, hl⟩ := id I.loc
  have hcls : (X.env.scope.kind == .class || (X.env.scope.kind == .module && X.env.locals != X.env.globals)) = false := by rw [I.ok.kind]; rfl
  have hiσ : i < σ.length := by rw [I.len]; exact (List.getElem?_eq_some_iff.mp hi).1
  have cne := I.cne
  have tracked : ∀ {a : Addr} {h' : Heap}, (∃ o, s.heap.get? a = some o ∧ H a = none) → Heap.SameBut a s.heap h' → HOk X.prog X.w H h' := fun {a h'} ha hs b ob e => by
    obtain ⟨_, _, hfree⟩ := ha
    refine (I.hok b ob e).stay (fun c w' hc q => (hs.2 c ?_).trans q) (fun _ q => q) fun _ _ q => q
    rintro rfl
    rcases hc with rfl | hc
    · rw [hfree] at e; cases e
    · rw [hfree] at hc; cases hc
  rcases hx with hk | hk
  · refine wpAny_storeName_local hk hn (fun h' hn' hs => ?_) hcls
    obtain ⟨oL, _, _, hoL, _⟩ := id hn
    refine h _ ⟨I.ok, I.os, I.bare, ⟨fun b o e n hb hx => ?_, fun b o e n hb hx => ?_, I.base.free, fun b o e hx => ?_, I.base.tups, I.base.frzs, I.base.tbls⟩, ⟨_, hn', fun j y v' e1 e2 e3 => ?_⟩, fun y c e => ?_, I.free, I.freeC, fun p hp => ?_, tracked ⟨oL, hoL, I.free⟩ hs, by simpa using I.len⟩ ⟨_, hs, .inl rfl⟩
    · exact (hs.2 b (Nat.ne_of_lt (Nat.lt_of_lt_of_le (Heap.lt_size e) I.ok.above))).trans (I.base.keep b o e n hb hx)
    · obtain ⟨sl, e1⟩ := I.base.slot b o e n hb hx
      exact ⟨sl, (hs.2 b (Nat.ne_of_lt (Nat.lt_of_lt_of_le (Heap.lt_size e) I.ok.above))).trans e1⟩
    · obtain ⟨o', e1⟩ := I.base.there b o e hx
      exact ⟨o', (hs.2 b (Nat.ne_of_lt (Nat.lt_of_lt_of_le (Heap.lt_size e) I.ok.above))).trans e1⟩
    · by_cases hj : j = i
      · subst hj
        rw [hi] at e1; cases e1
        rw [List.getElem?_set_self hiσ] at e2
        cases e2
        exact ⟨u, r, .inl ⟨hk, by simp⟩⟩
      · rw [List.getElem?_set_ne (Ne.symm hj)] at e2
        obtain ⟨u', r', q⟩ := hl j y v' e1 e2 e3
        refine ⟨u', r', ?_⟩
        rcases q with ⟨k, e⟩ | ⟨k, c, e, z⟩
        · refine .inl ⟨k, ?_⟩
          have : y ≠ x := fun e => hj (nodup_ix hN e1 (e ▸ hi))
          simp [this, e]
        · exact .inr ⟨k, c, e, z.sameBut hs (cne y c e)⟩
    · obtain ⟨w', z⟩ := I.cell y c e
      exact ⟨w', z.sameBut hs (cne y c e)⟩
    · obtain ⟨e, n, ne, nf, d⟩ := I.pin p hp
      exact ⟨(hs.2 p.1 ne).trans e, n, ne, nf, d⟩
  · have hfn : X.fn x = true := by
      rcases hf with z | z
      · exact z
      · rw [z] at hk; cases hk
    obtain ⟨c, hc⟩ := I.ok.has x (.inl hk)
    obtain ⟨w', z⟩ := I.cell x c hc
    refine wpAny_storeName_cell I.ok.kind hk hc z (fun h' hc' hs => ?_)
    obtain ⟨oc, hoc, hocd⟩ := id z
    refine h { s with heap := h' } ⟨I.ok, I.os, I.bare, ⟨fun b o e n hb hx => ?_, fun b o e n hb hx => ?_, I.base.free, fun b o e hx => ?_, I.base.tups, I.base.frzs, I.base.tbls⟩, ⟨m, hn.sameBut hs (Ne.symm (cne x c hc)), fun j y v' e1 e2 e3 => ?_⟩, fun y c' e => ?_, I.free, I.freeC, fun p hp => ?_, tracked ⟨oc, hoc, I.freeC x c hc⟩ hs, by simpa using I.len⟩ ⟨c, hs, .inr hc⟩
    · exact (hs.2 b (Nat.ne_of_lt (Nat.lt_of_lt_of_le (Heap.lt_size e) (I.ok.cab x c hfn hc)))).trans (I.base.keep b o e n hb hx)
    · obtain ⟨sl, e1⟩ := I.base.slot b o e n hb hx
      exact ⟨sl, (hs.2 b (Nat.ne_of_lt (Nat.lt_of_lt_of_le (Heap.lt_size e) (I.ok.cab x c hfn hc)))).trans e1⟩
    · obtain ⟨o', e1⟩ := I.base.there b o e hx
      exact ⟨o', (hs.2 b (Nat.ne_of_lt (Nat.lt_of_lt_of_le (Heap.lt_size e) (I.ok.cab x c hfn hc)))).trans e1⟩
    · by_cases hj : j = i
      · subst hj
        rw [hi] at e1; cases e1
        rw [List.getElem?_set_self hiσ] at e2
        cases e2
        exact ⟨u, r, .inr ⟨.inl hk, c, hc, hc'⟩⟩
      · rw [List.getElem?_set_ne (Ne.symm hj)] at e2
        obtain ⟨u', r', q⟩ := hl j y v' e1 e2 e3
        refine ⟨u', r', ?_⟩
        rcases q with q | ⟨k, c', e, z'⟩
        · exact .inl q
        · refine .inr ⟨k, c', e, z'.sameBut hs ?_⟩
          rintro rfl
          exact hj (nodup_ix hN e1 (I.ok.inj _ _ _ e hc ▸ hi))
    · by_cases hcc : c' = c
      · subst hcc; exact ⟨_, hc'⟩
      · obtain ⟨w2, z2⟩ := I.cell y c' e
        exact ⟨w2, z2.sameBut hs hcc⟩
    · obtain ⟨e, n, ne, nf, d⟩ := I.pin p hp
      refine ⟨(hs.2 p.1 ?_).trans e, n, ne, nf, d⟩
      intro q
      rw [q, hoc] at e
      have q' : oc = p.2 := Option.some.inj e
      exact d w' (by rw [← q']; exact hocd)
theorem store_ok {M : Model} {A : Around} {E : Value → Shared → Prop} {i : Nat} {x : Str} {v : V} {u : Value} {Q : Unit → Shared → Prop} (I : Inv X pins σ H s) (hN : X.N.Nodup) (hi : X.N[i]? = some x) (hx : Loc X.env.scope x) (r : RelV v u)
    (h : ∀ s', Inv X pins (σ.set i (some v)) H s' → Q () s') (hf : X.fn x = true ∨ X.env.scope.names.lookup x = some .local := by first | exact .inl rfl | exact .inr rfl | assumption) : wpAny M A (storeName X.env x u) Q E s :=
  store_ok2 I hN hi hx r (fun s' I' _ => h s' I') hf
theorem Inv.call' {s' : Shared} {ch : List Addr} (I : Inv X pins σ H s) (ho : s'.os = s.os) (u : Un (frs X.stack) ch H H' s.heap s'.heap) (hok : HOk X.prog X.w H' s'.heap) (hg : AllBare s'.gens)
    (hch : ∀ b ∈ ch, (b ∈ X.ex ∨ X.s₀.heap.objs.size ≤ b) ∧ b ≠ X.env.locals ∧ (∀ x c, X.env.cells.lookup x = some c → c ≠ b) ∧ ∀ p ∈ X.pn ++ pins, p.1 ≠ b) : Inv X pins σ H' s' := by
  obtain ⟨h', g', d', t', o'⟩ := s'
  have e : o' = s.os := ho
  subst e
  exact I.call (g' := g') (t' := t') (d' := d') u hok hg hch
end

noncomputable abbrev XK := Value → Option Addr → Hp → Prop
noncomputable abbrev St := List (Option V)
noncomputable abbrev VK := V → Hp → Prop
noncomputable abbrev TE := St → Hp → VK → Prop
noncomputable abbrev TT := St → Hp → (Bool → Hp → Prop) → Prop
noncomputable abbrev TA := St → Hp → (List V → Hp → Prop) → Prop
structure Ends where
  nx : St → Hp → Prop
  rt : VK
  bk : St → Hp → Prop := fun _ _ => False
  ct : St → Hp → Prop := fun _ _ => False
noncomputable abbrev TS := Ends → St → Hp → Prop

noncomputable def EP (X : Cx) (pins : List (Addr × Obj)) (σ : St) (Q : VK) (u : Value) (s' : Shared) : Prop := ∃ v H', Inv X pins σ H' s' ∧ RelV v u ∧ Q v H'
noncomputable def TP (X : Cx) (pins : List (Addr × Obj)) (σ : St) (Q : Bool → Hp → Prop) (b : Bool) (s' : Shared) : Prop := ∃ H', Inv X pins σ H' s' ∧ Q b H'
noncomputable def AP (X : Cx) (pins : List (Addr × Obj)) (σ : St) (Q : List V → Hp → Prop) (us : List Value) (s' : Shared) : Prop := ∃ vs H', Inv X pins σ H' s' ∧ Vals vs us ∧ Q vs H'
noncomputable def SP (X : Cx) (pins : List (Addr × Obj)) (D : Ends) (f : Flow) (s' : Shared) : Prop :=
  match f with
  | .next => ∃ σ' H', Inv X pins σ' H' s' ∧ D.nx σ' H'
  | .brk => ∃ σ' H', Inv X pins σ' H' s' ∧ D.bk σ' H'
  | .cont => ∃ σ' H', Inv X pins σ' H' s' ∧ D.ct σ' H'
  | .ret u => ∃ v σ' H', Inv X pins σ' H' s' ∧ RelV v u ∧ D.rt v H'

noncomputable def PE (X : Cx) (e : Expr) (t : TE) : Prop :=
  ∀ (pins : List (Addr × Obj)) (s : Shared) (σ : St) (H : Hp) (Q : VK), Inv X pins σ H s → t σ H Q → wpAny (model X.prog X.w) X.A (eval e X.env) (EP X pins σ Q) X.xe s
noncomputable def PT (X : Cx) (e : Expr) (t : TT) : Prop :=
  ∀ (pins : List (Addr × Obj)) (s : Shared) (σ : St) (H : Hp) (Q : Bool → Hp → Prop), Inv X pins σ H s → t σ H Q → wpAny (model X.prog X.w) X.A (isTrue e X.env (eval e X.env)) (TP X pins σ Q) X.xe s
noncomputable def PW (X : Cx) (e : Expr) (t : TT) : Prop :=
  ∀ (whole : Sem Value) (pins : List (Addr × Obj)) (s : Shared) (σ : St) (H : Hp) (Q : Bool → Hp → Prop), Inv X pins σ H s → t σ H Q → wpAny (model X.prog X.w) X.A (isTrue e X.env whole) (TP X pins σ Q) X.xe s
theorem PW.pt {X : Cx} {e : Expr} {t : TT} (h : PW X e t) : PT X e t := h _
noncomputable def PA (X : Cx) (es : List Expr) (t : TA) : Prop :=
  ∀ (pos : Pos) (pins : List (Addr × Obj)) (s : Shared) (σ : St) (H : Hp) (Q : List V → Hp → Prop), Inv X pins σ H s → t σ H Q → wpAny (model X.prog X.w) X.A (spliced (backTo pos (starEach es X.env))) (AP X pins σ Q) X.xe s
noncomputable def PS (X : Cx) (st : Stmt) (t : TS) : Prop :=
  ∀ (pins : List (Addr × Obj)) (s : Shared) (σ : St) (H : Hp) (D : Ends), Inv X pins σ H s → t D σ H → wpAny (model X.prog X.w) X.A (exec st X.env) (SP X pins D) X.xe s
noncomputable def PSs (X : Cx) (st : List Stmt) (t : TS) : Prop :=
  ∀ (pins : List (Addr × Obj)) (s : Shared) (σ : St) (H : Hp) (D : Ends), Inv X pins σ H s → t D σ H → wpAny (model X.prog X.w) X.A (execs st X.env) (SP X pins D) X.xe s
theorem thn {α : Type} {t : Sem α} {Q Q' : α → Shared → Prop} {M : Model} {A : Around} {E : Value → Shared → Prop} {s : Shared} (h : wpAny M A t Q E s) (hQ : ∀ a s, Q a s → Q' a s) : wpAny M A t Q' E s := wpAny_mono h hQ fun _ _ x => x
end L2

namespace L2
open PySem PySem.Spec PyProof.Rows
section
variable {X : Cx}

theorem bin {a b : Expr} {ta tb : TE} (ha : PE X a ta) (hb : PE X b tb) {pins : List (Addr × Obj)} {s : Shared} {σ : St} {H : Hp} {R : V → V → Hp → Prop} (I : Inv X pins σ H s) (h : ta σ H fun x H1 => tb σ H1 fun y H2 => R x y H2)
    {α : Type} {Q : α → Shared → Prop} {f : Value → Value → Sem α}
    (hf : ∀ v u s2 x y H2, Inv X pins σ H2 s2 → RelV x v → RelV y u → R x y H2 → wpAny (model X.prog X.w) X.A (f v u) Q X.xe s2) :
    wpAny (model X.prog X.w) X.A (eval a X.env) (fun v s₁ => wpAny (model X.prog X.w) X.A (eval b X.env) (fun u s₂ => wpAny (model X.prog X.w) X.A (f v u) Q X.xe s₂) X.xe s₁) X.xe s := by
  refine thn (ha pins s σ H _ I h) fun v s1 ⟨x, H1, I1, r1, q1⟩ => ?_
  refine thn (hb pins s1 σ H1 _ I1 q1) fun u s2 ⟨y, H2, I2, r2, q2⟩ => ?_
  exact hf v u s2 x y H2 I2 r1 r2 q2

noncomputable def tVar (i : Nat) : TE := fun σ H Q => ∃ v, σ[i]? = some (some v) ∧ Q v H
noncomputable def tC (v : V) : TE := fun _ H Q => Q v H
theorem pe_var {i : Nat} {x : Str} {pos : Pos} (hN : X.N[i]? = some x) (hv : Vis X.env.scope x) (hd : (x == ("__debug__" : Str)) = false := by decide) (hcd : (x == ("__classdict__" : Str)) = false := by decide) : PE X (.Name x pos) (tVar i) := by
  intro pins s σ H Q I h
  obtain ⟨v, e, h⟩ := h
  obtain ⟨m, hn, hl⟩ := I.loc
  obtain ⟨u, r, l⟩ := hl i x v hN e hv
  have fin : EP X pins σ Q u s := ⟨v, H, I, r, h⟩
  rcases l with ⟨hk, hm⟩ | ⟨hk, c, hc, hcell⟩
  · exact wpAny_Name (wpAny_loadName_local I.ok.kind hk hn hm fin) hd
  · rcases hk with hk | hk
    · exact wpAny_Name (wpAny_loadName_cell I.ok.kind hk hc hcell fin) hd
    · exact wpAny_Name (wpAny_loadName_free I.ok.kind hk hc hcell fin hcd) hd
theorem pe_int {i j pos} : PE X (.Constant (.int i) j pos) (tC (.int i)) := fun _ _ _ H _ I h => wpAny_Constant_int ⟨.int i, H, I.tok _, ⟨_, rfl⟩, h⟩
theorem pe_bl {b j pos} : PE X (.Constant (.bool b) j pos) (tC (.bl b)) := fun _ _ _ H _ I h => Constant_bool ⟨.bl b, H, I, rfl, h⟩
theorem pe_non {j pos} : PE X (.Constant .none j pos) (tC .non) := fun _ _ _ H _ I h => Constant_none ⟨.non, H, I, rfl, h⟩
theorem pe_str {x j pos} : PE X (.Constant (.str x) j pos) (tC (.str x)) := fun _ _ _ H _ I h => Calls.Constant_str ⟨.str x, H, I.tok _, ⟨_, rfl⟩, h⟩

noncomputable def Gl (X : Cx) (x : Str) : Prop := X.env.kindOf x = some .globalImplicit
theorem ld_glob {E : Value → Shared → Prop} {pins : List (Addr × Obj)} {s : Shared} {σ : St} {H : Hp} {x : Str} {u : Value} {pos : Pos} {Q : Value → Shared → Prop} (I : Inv X pins σ H s) (hg : Gl X x) (hm : X.mg x = some u) (h : Q u s)
    (hd : (x == ("__debug__" : Str)) = false := by decide) : wpAny (model X.prog X.w) X.A (eval (.Name x pos) X.env) Q E s :=
  Calls.Name_function_global I.ok.kind hg (Calls.loadGlobal_global (by rw [I.ok.glob]; exact I.mod.glob.keeps I.bk) hm h) hd
theorem ld_blt {E : Value → Shared → Prop} {pins : List (Addr × Obj)} {s : Shared} {σ : St} {H : Hp} {x : Str} {u : Value} {pos : Pos} {Q : Value → Shared → Prop} (I : Inv X pins σ H s) (hg : Gl X x) (hm : X.mg x = none) (hv : bootBuiltins x = some u) (h : Q u s)
    (hn : x ≠ "__name__" := by decide) (hd : (x == ("__debug__" : Str)) = false := by decide) : wpAny (model X.prog X.w) X.A (eval (.Name x pos) X.env) Q E s := by
  obtain ⟨mb, h1, h2⟩ := I.mod.blt
  exact Calls.Name_function_global I.ok.kind hg (Calls.loadGlobal_builtin (by rw [I.ok.glob]; exact I.mod.glob.keeps I.bk) hm (by rw [I.ok.blt]; exact h1.keeps I.bk) ((h2 x hn).trans hv) h) hd
theorem pe_glob {x : Str} {v : V} {u : Value} {pos : Pos} (hg : Gl X x) (hm : X.mg x = some u) (r : RelV v u) (hd : (x == ("__debug__" : Str)) = false := by decide) : PE X (.Name x pos) (tC v) :=
  fun _ _ _ H _ I h => ld_glob I hg hm ⟨v, H, I, r, h⟩ hd
theorem pe_bltn {x : Str} {v : V} {u : Value} {pos : Pos} (hg : Gl X x) (hm : X.mg x = none) (hv : bootBuiltins x = some u) (r : RelV v u) (hn : x ≠ "__name__" := by decide) (hd : (x == ("__debug__" : Str)) = false := by decide) : PE X (.Name x pos) (tC v) :=
  fun _ _ _ H _ I h => ld_blt I hg hm hv ⟨v, H, I, r, h⟩ hn hd

noncomputable def t2I (ta tb : TE) (k : Int → Int → Hp → Prop) : St → Hp → Prop := fun σ H => ta σ H fun x H1 => tb σ H1 fun y H2 => ∃ i j, x = .int i ∧ y = .int j ∧ k i j H2
variable {a b : Expr} {ta tb : TE} {pos : Pos}
noncomputable def PC (X : Cx) (op : CmpOp) (a b : Expr) (t : TE) : Prop :=
  ∀ (pins : List (Addr × Obj)) (s : Shared) (σ : St) (H : Hp) (Q : VK), Inv X pins σ H s → t σ H Q →
    wpAny (model X.prog X.w) X.A (eval a X.env) (fun v s₁ => wpAny (model X.prog X.w) X.A (eval b X.env) (fun u s₂ => wpAny (model X.prog X.w) X.A (compareOp op v u) (EP X pins σ Q) X.xe s₂) X.xe s₁) X.xe s
noncomputable def tCmp (p : Int → Int → Bool) (ta tb : TE) : TE := fun σ H Q => t2I ta tb (fun i j H2 => Q (.bl (p i j)) H2) σ H
noncomputable abbrev tLt : TE → TE → TE := tCmp fun i j => decide (i < j)
noncomputable abbrev tLe : TE → TE → TE := tCmp fun i j => decide (i ≤ j)
noncomputable abbrev tGt : TE → TE → TE := tCmp fun i j => decide (j < i)
noncomputable abbrev tGe : TE → TE → TE := tCmp fun i j => decide (j ≤ i)
noncomputable abbrev tEqI : TE → TE → TE := tCmp fun i j => decide (i = j)
noncomputable abbrev tNeI : TE → TE → TE := tCmp fun i j => !decide (i = j)
noncomputable def tB (t : TE) : TT := fun σ H Q => t σ H fun x H1 => ∃ c, x = .bl c ∧ Q c H1
theorem pt_cmp {op : CmpOp} {t : TE} (h : PC X op a b t) (h1 : behindInMarks op b = false := by first | exact nobehind _ (by decide) (by decide) | rfl) : PT X (.Compare a [op] [b] pos) (tB t) := by
  intro pins s σ H Q I hw
  refine wpAny_isTrue_Compare1 (thn (h pins s σ H _ I hw) fun v s1 h1 => thn h1 fun u s2 h2 => thn h2 fun c s3 ⟨x, H1, I1, r1, q1⟩ => ?_) h1
  obtain ⟨d, rfl, q⟩ := q1
  cases r1
  exact wpAny_truthy_bool ⟨H1, I1, q⟩
theorem pt_val {e : Expr} {t : TE} (h : PE X e t) (he : ∀ whole, isTrue e X.env whole = (do let v ← whole; standAt e.pos; holding [v] (truthy v)) := by intro _; rfl) : PT X e (tB t) := by
  intro pins s σ H Q I hw
  refine isTrue_plain (thn (h pins s σ H _ I hw) fun v s1 ⟨x, H1, I1, r1, q1⟩ => ?_) (he _)
  obtain ⟨d, rfl, q⟩ := q1
  cases r1
  exact wpAny_truthy_bool ⟨H1, I1, q⟩

variable {tA tB' : TT} {rest : List Expr}
noncomputable def tAnd (t u : TT) : TT := fun σ H Q => t σ H fun c H1 => if c = true then u σ H1 Q else Q false H1
noncomputable def tOr (t u : TT) : TT := fun σ H Q => t σ H fun c H1 => if c = true then Q true H1 else u σ H1 Q
noncomputable def tNot (t : TT) : TT := fun σ H Q => t σ H fun c H1 => Q (!c) H1
theorem pw_and1 (ha : PT X a tA) : PW X (.BoolOp .And [a] pos) tA := by
  intro wh pins s σ H Q I h
  refine isTrue_and (thn (ha pins s σ H Q I h) fun c s1 e => ?_)
  cases c with
  | true => exact isTrue_and_nil e
  | false => exact e
theorem pw_or1 (ha : PT X a tA) : PW X (.BoolOp .Or [a] pos) tA := by
  intro wh pins s σ H Q I h
  refine isTrue_or (thn (ha pins s σ H Q I h) fun c s1 e => ?_)
  cases c with
  | false => exact isTrue_or_nil e
  | true => exact e
theorem pw_and (ha : PT X a tA) (hb : PW X (.BoolOp .And (b :: rest) pos) tB') : PW X (.BoolOp .And (a :: b :: rest) pos) (tAnd tA tB') := by
  intro wh pins s σ H Q I h
  refine isTrue_and (thn (ha pins s σ H _ I h) fun c s1 ⟨H1, I1, q1⟩ => ?_)
  cases c with
  | true => exact hb wh pins s1 σ H1 Q I1 q1
  | false => exact ⟨H1, I1, q1⟩
theorem pw_or (ha : PT X a tA) (hb : PW X (.BoolOp .Or (b :: rest) pos) tB') : PW X (.BoolOp .Or (a :: b :: rest) pos) (tOr tA tB') := by
  intro wh pins s σ H Q I h
  refine isTrue_or (thn (ha pins s σ H _ I h) fun c s1 ⟨H1, I1, q1⟩ => ?_)
  cases c with
  | true => exact ⟨H1, I1, q1⟩
  | false => exact hb wh pins s1 σ H1 Q I1 q1
theorem pt_not (ha : PT X a tA) : PT X (.UnaryOp .Not a pos) (tNot tA) := by
  intro pins s σ H Q I h
  exact isTrue_not (ha pins s σ H (fun c H1 => Q (!c) H1) I h)
noncomputable def tAndV (ta tb : TE) : TE := fun σ H Q => ta σ H fun x H1 => ∃ c, x = .bl c ∧ if c = true then tb σ H1 Q else Q (.bl false) H1
noncomputable def tOrV (ta tb : TE) : TE := fun σ H Q => ta σ H fun x H1 => ∃ c, x = .bl c ∧ if c = true then Q (.bl true) H1 else tb σ H1 Q
noncomputable def tNotV (ta : TE) : TE := fun σ H Q => ta σ H fun x H1 => ∃ c, x = .bl c ∧ Q (.bl (!c)) H1
theorem pe_one {op} {t : TE} (h : PE X a t) : PE X (.BoolOp op [a] pos) t := fun pins s σ H Q I hw => BoolOp_one (h pins s σ H Q I hw)
theorem pe_and (ha : PE X a ta) (hb : PE X (.BoolOp .And (b :: rest) pos) tb) : PE X (.BoolOp .And (a :: b :: rest) pos) (tAndV ta tb) := by
  intro pins s σ H Q I h
  refine BoolOp_and (thn (ha pins s σ H _ I h) fun v s1 ⟨x, H1, I1, r1, q1⟩ => ?_)
  obtain ⟨c, rfl, q1⟩ := q1
  cases r1
  refine wpAny_truthy_bool ?_
  cases c with
  | true => exact hb pins s1 σ H1 Q I1 q1
  | false => exact ⟨.bl false, H1, I1, rfl, q1⟩
theorem pe_or (ha : PE X a ta) (hb : PE X (.BoolOp .Or (b :: rest) pos) tb) : PE X (.BoolOp .Or (a :: b :: rest) pos) (tOrV ta tb) := by
  intro pins s σ H Q I h
  refine BoolOp_or (thn (ha pins s σ H _ I h) fun v s1 ⟨x, H1, I1, r1, q1⟩ => ?_)
  obtain ⟨c, rfl, q1⟩ := q1
  cases r1
  refine wpAny_truthy_bool ?_
  cases c with
  | false => exact hb pins s1 σ H1 Q I1 q1
  | true => exact ⟨.bl true, H1, I1, rfl, q1⟩
theorem pe_not (ha : PE X a ta) : PE X (.UnaryOp .Not a pos) (tNotV ta) := by
  intro pins s σ H Q I h
  refine UnaryOp_ (thn (ha pins s σ H _ I h) fun v s1 ⟨x, H1, I1, r1, q1⟩ => ?_)
  obtain ⟨c, rfl, q1⟩ := q1
  cases r1
  exact not_of (wpAny_truthy_bool ⟨.bl (!c), H1, I1, rfl, q1⟩)
noncomputable def tIf (t : TT) (ta tb : TE) : TE := fun σ H Q => t σ H fun c H1 => if c = true then ta σ H1 Q else tb σ H1 Q
theorem pe_ifExp {c : Expr} (hc : PT X c tA) (ha : PE X a ta) (hb : PE X b tb) : PE X (.IfExp c a b pos) (tIf tA ta tb) := by
  intro pins s σ H Q I h
  refine wpAny_IfExp (thn (hc pins s σ H _ I h) fun d s1 ⟨H1, I1, q1⟩ => ?_)
  cases d with
  | true => exact ha pins s1 σ H1 Q I1 q1
  | false => exact hb pins s1 σ H1 Q I1 q1
end
end L2

namespace L2
open PySem PySem.Spec PyProof.Rows

noncomputable def SqL (K : PySem.W.Frag) (H : Hp) (a : Addr) (xs : List V) : Prop :=
  Rd H a (.lst xs) ∨
    ∃ (o : Obj) (its : Array Value) (n : Nat), K.lookup a = some o ∧ o.cls = .type "list" ∧ o.dict = none ∧ o.data = .seq its n ∧ its.size ≤ sizeLine ∧ Vals xs its.toList
noncomputable def SqT (K : PySem.W.Frag) (H : Hp) (a : Addr) (xs : List V) : Prop :=
  Rd H a (.tup xs) ∨
    ∃ (o : Obj) (its : Array Value) (n : Nat), K.lookup a = some o ∧ o.cls = .type "tuple" ∧ o.data = .seq its n ∧ its.size ≤ sizeLine ∧ Vals xs its.toList
noncomputable def absV : Value → Option V
  | .none => some .non
  | .bool b => some (.bl b)
  | .int i _ => some (.int i)
  | .str x _ => some (.str x)
  | .bytes b _ => some (.byt b)
  | .float b _ => some (.flt b)
  | .ref a => some (.ref a)
  | .type n => some (.ty n)
  | _ => none
theorem RelV.abs {x : V} {u : Value} (r : RelV x u) : absV u = some x := by
  cases x with
  | non => cases r; rfl
  | bl _ => cases r; rfl
  | int _ => obtain ⟨t, rfl⟩ := r; rfl
  | str _ => obtain ⟨t, rfl⟩ := r; rfl
  | byt _ => obtain ⟨t, rfl⟩ := r; rfl
  | flt _ => obtain ⟨t, rfl⟩ := r; rfl
  | ref _ => cases r; rfl
  | ty _ => cases r; rfl
theorem RelV.inj {x y : V} {u : Value} (r : RelV x u) (q : RelV y u) : x = y := Option.some.inj (r.abs.symm.trans q.abs)
theorem Vals.inj {xs ys : List V} {us : List Value} (a : Vals xs us) (b : Vals ys us) : xs = ys := by
  induction a generalizing ys with
  | nil => cases b; rfl
  | cons r t ih =>
    cases b with
    | cons r' t' => rw [r.inj r', ih t']
section
variable {X : Cx} {pins : List (Addr × Obj)} {σ : St} {H : Hp} {s : Shared} {a : Addr} {xs ys : List V}
theorem SqL.of {K : PySem.W.Frag} (h : H a = some (.lst xs)) : SqL K H a xs := .inl (.inl h)
theorem SqT.of {K : PySem.W.Frag} (h : H a = some (.tup xs)) : SqT K H a xs := .inl (.inl h)
theorem Inv.list (I : Inv X pins σ H s) (h : SqL X.K H a xs) : ∃ its : List Value, Vals xs its ∧ PlainL s.heap a its.toArray ∧ xs.length ≤ sizeLine := by
  rcases h with h | ⟨o, its, n, hk, hc, hd, hs, hz, r⟩
  · obtain ⟨z, its, n, r, e⟩ := h.ok I.hok
    exact ⟨its, r, ⟨_, n, e, rfl, rfl, rfl⟩, z⟩
  · refine ⟨its.toList, r, ⟨o, n, I.kIn a o hk, hc, hd, by simpa using hs⟩, ?_⟩
    have e := r.length
    simp only [Array.length_toList] at e
    omega
theorem Inv.tuple (I : Inv X pins σ H s) (h : SqT X.K H a xs) : ∃ its : List Value, Vals xs its ∧ IsTup s.heap a its.toArray ∧ xs.length ≤ sizeLine := by
  rcases h with h | ⟨o, its, n, hk, hc, hs, hz, r⟩
  · obtain ⟨z, its, r, p⟩ := h.ok I.hok
    exact ⟨its, r, p, z⟩
  · refine ⟨its.toList, r, ⟨o, I.kIn a o hk, hc, n, by simpa using hs⟩, ?_⟩
    have e := r.length
    simp only [Array.length_toList] at e
    omega
theorem Inv.list_inj (I : Inv X pins σ H s) (h : SqL X.K H a xs) (h' : SqL X.K H a ys) : xs = ys := by
  obtain ⟨its, r, ⟨o, n, e, _, _, d⟩, _⟩ := I.list h
  obtain ⟨its', r', ⟨o', n', e', _, _, d'⟩, _⟩ := I.list h'
  rw [e] at e'; cases e'
  rw [d] at d'
  injection d' with d1 _
  have : its = its' := by simpa using congrArg Array.toList d1
  subst this
  exact r.inj r'
end

noncomputable abbrev Cx.wish (X : Cx) (E : Value → Shared → Prop) : Cx := { X with xe := E }
noncomputable abbrev Cx.nox (X : Cx) : Cx := X.wish fun _ _ => False
theorem Cx.Ok.wish {X : Cx} (ok : X.Ok) (E : Value → Shared → Prop) : (X.wish E).Ok :=
  ⟨ok.mod, ok.kind, ok.glob, ok.blt, ok.above, ok.inj, ok.has, ok.cab, ok.hd, ok.frames, ok.stk, ok.exf, ok.bs, ok.bsz, ok.noex, ok.exfs, ok.funs, ok.frf⟩
theorem Cx.Ok.unwish {X : Cx} {E : Value → Shared → Prop} (ok : (X.wish E).Ok) : X.Ok :=
  ⟨ok.mod, ok.kind, ok.glob, ok.blt, ok.above, ok.inj, ok.has, ok.cab, ok.hd, ok.frames, ok.stk, ok.exf, ok.bs, ok.bsz, ok.noex, ok.exfs, ok.funs, ok.frf⟩
section
variable {X : Cx} {pins : List (Addr × Obj)} {σ : St} {H : Hp} {s : Shared} {E : Value → Shared → Prop}
theorem Inv.wish (I : Inv X pins σ H s) (E : Value → Shared → Prop) : Inv (X.wish E) pins σ H s := ⟨I.ok.wish E, I.os, I.bare, I.base, I.loc, I.cell, I.free, I.freeC, I.pin, I.hok, I.len⟩
theorem Inv.unwish (I : Inv (X.wish E) pins σ H s) : Inv X pins σ H s := ⟨I.ok.unwish, I.os, I.bare, I.base, I.loc, I.cell, I.free, I.freeC, I.pin, I.hok, I.len⟩
theorem SP.unwish {D : Ends} {f : Flow} {s' : Shared} (h : SP (X.wish E) pins D f s') : SP X pins D f s' := by
  cases f with
  | next => obtain ⟨σ', H', I, q⟩ := h; exact ⟨σ', H', I.unwish, q⟩
  | brk => obtain ⟨σ', H', I, q⟩ := h; exact ⟨σ', H', I.unwish, q⟩
  | cont => obtain ⟨σ', H', I, q⟩ := h; exact ⟨σ', H', I.unwish, q⟩
  | ret u => obtain ⟨v, σ', H', I, r, q⟩ := h; exact ⟨v, σ', H', I.unwish, r, q⟩
theorem PSs.nox {st : List Stmt} {t : TS} (h : PSs X.nox st t) : PSs X st t := fun pins s σ H D I hw =>
  wpAny_mono (h pins s σ H D (I.wish _) hw) (fun _ _ q => q.unwish) fun _ _ z => False.elim z
end

section
variable {X : Cx} {st : Stmt} {rest : List Stmt} {t u : TS} {e : Expr} {te : TE} {pos : Pos}
noncomputable def tNext : TS := fun D σ H => D.nx σ H
noncomputable def tSeq (t u : TS) : TS := fun D σ H => t { D with nx := u D } σ H
theorem pss_nil : PSs X [] tNext := fun _ _ σ H _ I h => wpAny_execs_nil ⟨σ, H, I, h⟩
theorem pss_cons (h1 : PS X st t) (h2 : PSs X rest u) : PSs X (st :: rest) (tSeq t u) := by
  intro pins s σ H D I h
  refine wpAny_execs_cons (thn (h1 pins s σ H { D with nx := u D } I h) fun f s1 q => ?_)
  cases f with
  | next =>
    obtain ⟨σ', H', I', q⟩ := q
    exact h2 pins s1 σ' H' D I' q
  | ret v => exact q
  | brk => exact q
  | cont => exact q
theorem pss_one (h1 : PS X st t) : PSs X [st] t := by
  intro pins s σ H D I h
  refine wpAny_execs_cons (thn (h1 pins s σ H D I h) fun f s1 q => ?_)
  cases f with
  | next => exact wpAny_execs_nil q
  | ret v => exact q
  | brk => exact q
  | cont => exact q
theorem Inv.quiet {pins : List (Addr × Obj)} {σ : St} {H : Hp} {s : Shared} (I : Inv X pins σ H s) : interactive X.env = false := by simp [interactive, I.ok.kind]
noncomputable def tDrop (te : TE) : TS := fun D σ H => te σ H fun _ H1 => D.nx σ H1
theorem ps_expr (he : PE X e te) (hs : swapsWith e none pos.line X.env = pure false := by rfl) : PS X (.Expr e pos) (tDrop te) := by
  intro pins s σ H D I h
  exact wpAny_Expr_any (thn (he pins s σ H _ I h) fun v s1 ⟨x, H1, I1, r1, q1⟩ => ⟨σ, H1, I1, q1⟩) I.quiet hs
noncomputable def tRet (te : TE) : TS := fun D σ H => te σ H D.rt
theorem ps_ret (he : PE X e te) : PS X (.Return (some e) pos) (tRet te) := by
  intro pins s σ H D I h
  exact wpAny_Return_some (thn (he pins s σ H _ I h) fun v s1 ⟨x, H1, I1, r1, q1⟩ => ⟨x, σ, H1, I1, r1, q1⟩)
noncomputable def tIfS (c : TT) (t u : TS) : TS := fun D σ H => c σ H fun b H1 => if b = true then t D σ H1 else u D σ H1
theorem ps_if {c : Expr} {a b : List Stmt} {tc : TT} (hc : PT X c tc) (ha : PSs X a t) (hb : PSs X b u) : PS X (.If c a b pos) (tIfS tc t u) := by
  intro pins s σ H D I h
  refine wpAny_If (thn (hc pins s σ H _ I h) fun d s1 ⟨H1, I1, q1⟩ => ?_)
  cases d with
  | true => exact ha pins s1 σ H1 D I1 q1
  | false => exact hb pins s1 σ H1 D I1 q1
noncomputable def tNever : TS := fun _ _ _ => False
theorem pss_never {sts : List Stmt} : PSs X sts tNever := fun _ _ _ _ _ _ h => h.elim
end

noncomputable abbrev TG := V → St → Hp → (St → Hp → Prop) → Prop
noncomputable abbrev TGs := List V → St → Hp → (St → Hp → Prop) → Prop
noncomputable def PG (X : Cx) (target : Expr) (t : TG) : Prop :=
  ∀ (pins : List (Addr × Obj)) (s : Shared) (σ : St) (H : Hp) (v : V) (u : Value) (Q : St → Hp → Prop), Inv X pins σ H s → RelV v u → t v σ H Q →
    wpAny (model X.prog X.w) X.A (assign target X.env u) (fun _ s' => ∃ σ' H', Inv X pins σ' H' s' ∧ Q σ' H') X.xe s
noncomputable def PGs (X : Cx) (ts : List Expr) (t : TGs) : Prop :=
  ∀ (pins : List (Addr × Obj)) (s : Shared) (σ : St) (H : Hp) (vs : List V) (us : List Value) (Q : St → Hp → Prop), Inv X pins σ H s → Vals vs us → t vs σ H Q →
    wpAny (model X.prog X.w) X.A (assignInOrder ((assignEach ts X.env).map (·.2)) us) (fun _ s' => ∃ σ' H', Inv X pins σ' H' s' ∧ Q σ' H') X.xe s
noncomputable abbrev TSet := V → V → V → Hp → (Hp → Prop) → Prop
noncomputable def PSet (X : Cx) (t : TSet) : Prop :=
  ∀ (pins : List (Addr × Obj)) (s : Shared) (σ : St) (H : Hp) (o i v : V) (ov iv u : Value) (Q : Hp → Prop), Inv X pins σ H s → RelV o ov → RelV i iv → RelV v u → t o i v H Q →
    wpAny (model X.prog X.w) X.A (setItem ov iv u) (fun _ s' => ∃ H', Inv X pins σ H' s' ∧ Q H') X.xe s
noncomputable abbrev TIp := V → V → Hp → VK → Prop
section
variable {X : Cx} {pos : Pos}
noncomputable def gName (i : Nat) : TG := fun v σ H Q => Q (σ.set i (some v)) H
theorem pg_name {i : Nat} {x : Str} (hN : X.N.Nodup) (hi : X.N[i]? = some x) (hx : Loc X.env.scope x) (hf : X.fn x = true ∨ X.env.scope.names.lookup x = some .local := by first | exact .inl rfl | exact .inr rfl | assumption) : PG X (.Name x pos) (gName i) := by
  intro pins s σ H v u Q I r h
  exact wpAny_assign_Name (store_ok I hN hi hx r (fun s' I' => ⟨_, H, I', h⟩) hf)
noncomputable def gNil : TGs := fun vs σ H Q => vs = [] ∧ Q σ H
noncomputable def gCons (t : TG) (u : TGs) : TGs := fun vs σ H Q => ∃ v r, vs = v :: r ∧ t v σ H fun σ' H' => u r σ' H' Q
theorem pgs_nil : PGs X [] gNil := by
  intro pins s σ H vs us Q I r h
  obtain ⟨e, h⟩ := h
  subst e
  cases r
  exact assignInOrder_nil ⟨σ, H, I, h⟩
theorem pgs_cons {e : Expr} {es : List Expr} {t : TG} {u : TGs} (h1 : PG X e t) (h2 : PGs X es u)
    (hs : (assignEach (e :: es) X.env).map (·.2) = assign e X.env :: (assignEach es X.env).map (·.2) := by rfl) : PGs X (e :: es) (gCons t u) := by
  intro pins s σ H vs us Q I r h
  obtain ⟨v, vr, e1, h⟩ := h
  subst e1
  cases r with
  | cons r rr =>
    rw [hs]
    refine assignInOrder_cons (thn (h1 pins s σ H _ _ _ I r h) fun _ s1 ⟨σ1, H1, I1, q1⟩ => ?_)
    exact h2 pins s1 σ1 H1 _ _ Q I1 rr q1
noncomputable def gTup (K : PySem.W.Frag) (n : Nat) (t : TGs) : TG := fun v σ H Q => ∃ a xs, v = .ref a ∧ SqT K H a xs ∧ xs.length = n ∧ t xs σ H Q
theorem pg_tup {es : List Expr} {k : Nat} {t : TGs} {n : Nat} (hc : X.calm = true) (h : PGs X es t)
    (hn : (assignEach es X.env).length = n := by rfl) (hst : (assignEach es X.env).findIdx? (·.1) = none := by rfl) : PG X (.Tuple es k pos) (gTup X.K n t) := by
  intro pins s σ H v u Q I r hw
  obtain ⟨a, xs, e1, hq, hl, hw⟩ := hw
  subst e1
  cases r
  obtain ⟨its, rv, ht, hz⟩ := I.tuple hq
  refine assign_Tuple_tuple (I.ok.hd hc) ht (by simp [hn, ← hl, rv.length]) hst fun h' hx => ?_
  have I1 : Inv X pins σ H { s with heap := h' } := I.kept (t' := s.toks) fun b o e => hx b o (Nat.ne_of_lt (Heap.lt_size e)) e
  exact h pins _ σ H xs _ Q I1 (by simpa using rv) hw
noncomputable def gSub (to ti : TE) (t : TSet) : TG := fun v σ H Q => to σ H fun o H1 => ti σ H1 fun i H2 => t o i v H2 fun H3 => Q σ H3
theorem pg_sub {o i : Expr} {to ti : TE} {t : TSet} (ho : PE X o to) (hi : PE X i ti) (hs : PSet X t)
    (ha : ∀ v, assign (.Subscript o i pos) X.env v = (do
      let ov ← holding [v] (eval o X.env)
      let iv ← holding [v, ov] (eval i X.env)
      standAt pos
      holding [v, ov, iv] (setItem ov iv v)
      release [v, ov, iv] []) := by intro _; rfl) : PG X (.Subscript o i pos) (gSub to ti t) := by
  intro pins s σ H v u Q I r h
  rw [ha]
  refine wpAny_bind (wpAny_holding (thn (ho pins s σ H _ I h) fun ov s1 ⟨x, H1, I1, r1, q1⟩ => ?_))
  refine wpAny_bind (wpAny_holding (thn (hi pins s1 σ H1 _ I1 q1) fun iv s2 ⟨y, H2, I2, r2, q2⟩ => ?_))
  refine wpAny_bind (wpAny_standAt (wpAny_bind (wpAny_holding (thn (hs pins s2 σ H2 x y v ov iv u _ I2 r1 r2 r q2) fun _ s3 ⟨H3, I3, q3⟩ => ?_))))
  exact wpAny_release ⟨σ, H3, I3, q3⟩
noncomputable def tAsg (te : TE) (g : TG) : TS := fun D σ H => te σ H fun x H1 => g x σ H1 D.nx
theorem ps_asg {tg e : Expr} {te : TE} {g : TG} (he : PE X e te) (hg : PG X tg g) (hs : swapsWithSole [tg] e pos.line X.env = pure false := by rfl) (hw : swappedStores [tg] e X.env = pure none := by rfl)
    (h1 : (assignEach [tg] X.env).map (·.2) = [assign tg X.env] := by rfl) : PS X (.Assign [tg] e pos) (tAsg te g) := by
  intro pins s σ H D I h
  refine wpAny_Assign_stores (thn (he pins s σ H _ I h) fun v s1 ⟨x, H1, I1, r1, q1⟩ => ?_) hs hw
  rw [h1]
  exact thn (hg pins s1 σ H1 x v _ I1 r1 q1) fun _ s2 q => q
theorem ps_set {i : Nat} {x : Str} {e : Expr} {te : TE} {pos' : Pos} (hN : X.N.Nodup) (hi : X.N[i]? = some x) (hx : Loc X.env.scope x) (he : PE X e te) (hs : swapsWith e (some (.Name x pos')) pos.line X.env = pure false := by rfl) (hf : X.fn x = true ∨ X.env.scope.names.lookup x = some .local := by first | exact .inl rfl | exact .inr rfl | assumption) :
    PS X (.Assign [.Name x pos'] e pos) (tAsg te (gName i)) := by
  intro pins s σ H D I h
  refine wpAny_Assign_Name (thn (he pins s σ H _ I h) fun v s1 ⟨y, H1, I1, r1, q1⟩ => ?_) hs
  exact store_ok I1 hN hi hx r1 (fun s2 I2 => ⟨_, H1, I2, q1⟩) hf
end

section
variable {X : Cx} {pos : Pos}
end

structure It where
  go : Nat → Hp → Prop
  yld : Nat → Hp → V → Hp → Prop
  stop : Nat → Hp → Prop
noncomputable def FpOk (X : Cx) (pins : List (Addr × Obj)) (H : Hp) (b : Addr) : Prop :=
  H b = none ∧ b ≠ X.env.locals ∧ b ∉ X.fs ∧ (b ∈ X.ex ∨ X.s₀.heap.objs.size ≤ b) ∧ (∀ x c, X.env.cells.lookup x = some c → c ≠ b) ∧ ∀ p ∈ X.pn ++ pins, p.1 ≠ b
theorem Inv.fpOk {X : Cx} {pins : List (Addr × Obj)} {σ : St} {H H' : Hp} {s : Shared} {b : Addr} (I : Inv X pins σ H s) (hb : s.heap.objs.size ≤ b) (hn : H' b = none) : FpOk X pins H' b := by
  refine ⟨hn, Nat.ne_of_gt (Nat.lt_of_lt_of_le I.lt hb), I.nofs hb, .inr (Nat.le_trans I.sz hb), fun x c e z => ?_, fun p hp z => ?_⟩
  · obtain ⟨v, q⟩ := I.cell x c e
    exact absurd (Nat.lt_of_lt_of_le q.lt (by rw [z]; exact hb)) (Nat.lt_irrefl _)
  · exact absurd (Nat.lt_of_lt_of_le (Heap.lt_size (I.pin p hp).1) (by rw [z]; exact hb)) (Nat.lt_irrefl _)
structure Turn (P : Program) (w : World) (K : PySem.W.Frag) (tg : Expr) (J : It) (fp : List Addr) (it : Addr) (tn : Nat → Heap → Prop) : Prop where
  mem : it ∈ fp
  obj : ∀ i h, tn i h → ∀ b ∈ fp, ∃ o, h.get? b = some o ∧ ∀ v, o.data ≠ .cell v
  keep : ∀ i h h', tn i h → (∀ b ∈ fp, ∀ o, h.get? b = some o → h'.get? b = some o) → tn i h'
  item : ∀ (X : Cx), X.prog = P → X.w = w → X.K = K → X.calm = true → ∀ (i : Nat) (pins : List (Addr × Obj)) (s : Shared) (σ : St) (H : Hp) (E : Value → Shared → Prop), Inv X pins σ H s → (∀ b ∈ fp, FpOk X pins H b) → tn i s.heap → J.go i H →
    wpAny (model P w) X.A (pyNext (.ref it)) (fun r s1 => ∃ u, r = some u ∧
      wpAny (model P w) X.A (letOwnedTupleGo tg (.ref it) u) (fun _ s2 => ∃ x H', Inv X pins σ H' s2 ∧ RelV x u ∧ J.yld i H x H' ∧ tn (i + 1) s2.heap ∧ ∀ b ∈ fp, H' b = none) E s1) E s
  done : ∀ (X : Cx), X.prog = P → X.w = w → X.K = K → X.calm = true → ∀ (i : Nat) (pins : List (Addr × Obj)) (s : Shared) (σ : St) (H : Hp) (E : Value → Shared → Prop), Inv X pins σ H s → (∀ b ∈ fp, FpOk X pins H b) → tn i s.heap → J.stop i H →
    wpAny (model P w) X.A (pyNext (.ref it)) (fun r s1 => r = none ∧ Inv X pins σ H s1) E s
  self : ∀ (A : Around) (i : Nat) (s : Shared) (Q : Value → Shared → Prop) (E : Value → Shared → Prop), tn i s.heap → Q (.ref it) s → wpAny (model P w) A (pyIter (.ref it)) Q E s
noncomputable abbrev TI := St → Hp → (It → Hp → Prop) → Prop
noncomputable def PIE (X : Cx) (pins : List (Addr × Obj)) (σ : St) (tg : Expr) (R : It → Hp → Prop) (itv : Value) (s2 : Shared) : Prop :=
  ∃ (it : Addr) (fp : List Addr) (tn : Nat → Heap → Prop) (J : It) (H' : Hp), itv = .ref it ∧ Inv X pins σ H' s2 ∧ Turn X.prog X.w X.K tg J fp it tn ∧ tn 0 s2.heap ∧ (∀ b ∈ fp, FpOk X pins H' b) ∧ R J H'
noncomputable def PI (X : Cx) (tg iter : Expr) (wi : TI) : Prop :=
  ∀ (pins : List (Addr × Obj)) (s : Shared) (σ : St) (H : Hp) (R : It → Hp → Prop), Inv X pins σ H s → wi σ H R →
    wpAny (model X.prog X.w) X.A (eval iter X.env) (fun v s1 => wpAny (model X.prog X.w) X.A (pyIter v) (PIE X pins σ tg R) X.xe s1) X.xe s

theorem go_of {M : Model} {A : Around} {E : Value → Shared → Prop} {s : Shared} {tg : Expr} {it : Addr} {u : Value} {o : Obj} {n : String} {vs : Array Value} {Q : Unit → Shared → Prop} (ho : s.heap.get? it = some o) (hc : o.cls = .type n) (hd : o.data = .fields vs)
    (hn : ["enumerate", "zip", "dict_itemiterator", "dict_reverseitemiterator", "odict_iterator", "itertools.zip_longest", "itertools.pairwise"].contains n = false) (hQ : Q () s) : wpAny M A (letOwnedTupleGo tg (.ref it) u) Q E s := by
  unfold letOwnedTupleGo
  cases tg <;> first
    | exact wpAny_pure hQ
    | (cases u <;> first
        | exact wpAny_pure hQ
        | (refine wpAny_bind (wpAny_load ho ?_)
           rw [hc, hd]
           show wpAny M A (if (["enumerate", "zip", "dict_itemiterator", "dict_reverseitemiterator", "odict_iterator", "itertools.zip_longest", "itertools.pairwise"].contains n && vs[0]? == some (rawInt _)) = true then _ else _) Q E s
           rw [if_neg (by intro h; rw [hn, Bool.false_and] at h; cases h)]
           exact wpAny_pure hQ))

noncomputable def Itl (K : PySem.W.Frag) (a : Addr) : It :=
  ⟨fun i H => ∃ xs x, SqL K H a xs ∧ xs[i]? = some x, fun i H x H' => H' = H ∧ ∀ xs, SqL K H a xs → xs[i]? = some x, fun i H => ∃ xs, SqL K H a xs ∧ xs.length ≤ i⟩
noncomputable def Itr (lo : Int) (n : Nat) : It := ⟨fun i _ => i < n, fun i H x H' => H' = H ∧ x = .int (lo + i), fun i _ => n ≤ i⟩
theorem turn_list {P : Program} {w : World} {K : PySem.W.Frag} {tg : Expr} (a it : Addr) : Turn P w K tg (Itl K a) [it] it (fun i h => h.IsListIter it a i) where
  mem := by simp
  obj := fun i h st b hb => by
    have e : b = it := by simpa using hb
    subst e
    obtain ⟨o, e, c, d⟩ := st
    exact ⟨o, e, fun v z => by rw [d] at z; cases z⟩
  keep := fun i h h' st k => st.at fun o e => k it (by simp) o e
  item := by
    intro X hP hw hK hc i pins s σ H E I hf st hg
    subst hP hw hK
    obtain ⟨xs, x, hq, hx⟩ := hg
    obtain ⟨its, rv, p, hz⟩ := I.list hq
    obtain ⟨u, hu, ru⟩ := rv.get hx
    obtain ⟨f0, f1, f2, f3, f4, f5⟩ := hf it (by simp)
    refine wpAny_pyNext_list_item st p.isList (x := u) (by simpa using hu) fun h' st' sb => ?_
    have I1 : Inv X pins σ H { s with heap := h' } := I.turned (t' := s.toks) (fun b o hb e => (sb.2 b hb).trans e) f0 f1 f3 f4 f5
    obtain ⟨o, e, c, d⟩ := id st'
    exact ⟨u, rfl, go_of (s := { s with heap := h' }) e c d (by decide) ⟨x, H, I1, ru, ⟨rfl, fun ys hy => by rw [I.list_inj hy hq]; exact hx⟩, st', fun b hb => (hf b hb).1⟩⟩
  done := by
    intro X hP hw hK hc i pins s σ H E I hf st hg
    subst hP hw hK
    obtain ⟨xs, hq, hx⟩ := hg
    obtain ⟨its, rv, p, hz⟩ := I.list hq
    obtain ⟨f0, f1, f2, f3, f4, f5⟩ := hf it (by simp)
    have hl := rv.length
    exact wpAny_pyNext_list_end (I.ok.hd hc) st p.isList (by simp; omega) fun h' eb => ⟨rfl, I.turned (t' := s.toks) (fun b o hb e => eb b o hb e) f0 f1 f3 f4 f5⟩
  self := fun _ _ _ _ _ st h => wpAny_pyIter_listiter st h
theorem turn_range {P : Program} {w : World} {K : PySem.W.Frag} {tg : Expr} (it : Addr) (lo : Int) (n : Nat) : Turn P w K tg (Itr lo n) [it] it (fun i h => IsRangeIter h it (lo + (i : Nat) * 1) ((n : Int) - (i : Nat)) 1) where
  mem := by simp
  obj := fun i h st b hb => by
    have e : b = it := by simpa using hb
    subst e
    exact ⟨_, st, fun v z => by
      have z' : Data.fields _ = Data.cell v := z
      cases z'⟩
  keep := fun i h h' st k => k it (by simp) _ st
  item := by
    intro X hP hw hK hc i pins s σ H E I hf st hg
    subst hP hw hK
    obtain ⟨f0, f1, f2, f3, f4, f5⟩ := hf it (by simp)
    have W := Walks.range (prog := X.prog) (w := X.w) (I.ok.hd hc) it lo 1 n
    refine W.item i s _ _ hg st fun v h' tk hv st' kk => ?_
    obtain ⟨t, rfl⟩ := hv
    have I1 : Inv X pins σ H { s with heap := h', toks := tk } := I.turned (fun b o hb e => kk b o (by simpa using hb) e) f0 f1 f3 f4 f5
    refine ⟨_, rfl, go_of (s := { s with heap := h', toks := tk }) (n := "range_iterator") st' rfl rfl (by decide) ⟨.int (lo + i), H, I1, ⟨t, ?_⟩, ⟨rfl, rfl⟩, st', fun b hb => (hf b hb).1⟩⟩
    rw [Int.mul_one]
  done := by
    intro X hP hw hK hc i pins s σ H E I hf st hg
    subst hP hw hK
    obtain ⟨f0, f1, f2, f3, f4, f5⟩ := hf it (by simp)
    exact wpAny_pyNext_range_end (I.ok.hd hc) st (by have : n ≤ i := hg; omega) fun h' eb => ⟨rfl, I.turned (t' := s.toks) (fun b o hb e => eb b o hb e) f0 f1 f3 f4 f5⟩
  self := fun _ _ _ _ _ st h => wpAny_pyIter_rangeiter st h
end L2

namespace L2
open PySem PySem.Spec PyProof.Rows
section
variable {X : Cx} {tg : Expr}
noncomputable def iList (K : PySem.W.Frag) (tl : TE) : TI := fun σ H R => tl σ H fun x H1 => ∃ a, x = .ref a ∧ (∃ xs, SqL K H1 a xs) ∧ R (Itl K a) H1
theorem pi_list {l : Expr} {tl : TE} (hl : PE X l tl) : PI X tg l (iList X.K tl) := by
  intro pins s σ H R I h
  refine thn (hl pins s σ H _ I h) fun v s1 ⟨x, H1, I1, r1, q1⟩ => ?_
  obtain ⟨a, e, ⟨xs, hq⟩, q⟩ := q1
  subst e
  cases r1
  obtain ⟨its, rv, p, hz⟩ := I1.list hq
  refine wpAny_pyIter_list p.isList ?_
  refine ⟨s1.heap.objs.size, [s1.heap.objs.size], _, _, H1, rfl, I1.kept (t' := s1.toks) fun b o e => Heap.get?_push_of_some _ e, turn_list a _, ⟨_, Heap.get?_push_size _ rfl, rfl, rfl⟩, fun b hb => ?_, q⟩
  have e : b = s1.heap.objs.size := by simpa using hb
  subst e
  exact I1.fpOk (Nat.le_refl _) (I1.hok.fresh (Nat.le_refl _))
theorem range_it {pins : List (Addr × Obj)} {σ : St} {H : Hp} {s : Shared} {R : It → Hp → Prop} {E : Value → Shared → Prop} {lo hi : Int} {t u v : Tok} {tk : Nat} (I : Inv X pins σ H s) (h1 : -(2 ^ 62) ≤ lo) (h2 : lo < 2 ^ 62) (h3 : -(2 ^ 62) ≤ hi) (h4 : hi < 2 ^ 62)
    (q : R (Itr lo (hi - lo).toNat) H) : wpAny (model X.prog X.w) X.A (pyIter (.ref s.heap.objs.size)) (PIE X pins σ tg R) E { s with heap := s.heap.push { cls := .type "range", data := .fields #[.int lo t, .int hi u, .int 1 v] }, toks := tk } := by
  refine wpAny_pyIter_range (IsRange.new ..) (small_one h1 h2 h3 h4) ?_
  have I1 : Inv X pins σ H { s with heap := s.heap.push { cls := .type "range", data := .fields #[.int lo t, .int hi u, .int 1 v] }, toks := tk } := I.kept fun b o e => Heap.get?_push_of_some _ e
  refine ⟨(s.heap.push { cls := .type "range", data := .fields #[.int lo t, .int hi u, .int 1 v] }).objs.size, [(s.heap.push { cls := .type "range", data := .fields #[.int lo t, .int hi u, .int 1 v] }).objs.size], _, _, H, rfl,
    I1.kept (t' := tk) fun b o e => Heap.get?_push_of_some _ e, turn_range _ lo (hi - lo).toNat, ?_, fun b hb => ?_, q⟩
  · have e1 : lo + ((0 : Nat) : Int) * 1 = lo := by simp
    have e2 : (((hi - lo).toNat : Nat) : Int) - ((0 : Nat) : Int) = Builtin.Range.rangeSize lo hi 1 := by rw [rangeSize_one]; split <;> omega
    show IsRangeIter _ _ (lo + ((0 : Nat) : Int) * 1) ((((hi - lo).toNat : Nat) : Int) - ((0 : Nat) : Int)) 1
    rw [e1, e2]
    exact Heap.get?_push_size _ rfl
  · have e : b = (s.heap.push { cls := .type "range", data := .fields #[.int lo t, .int hi u, .int 1 v] }).objs.size := by simpa using hb
    subst e
    exact I1.fpOk (Nat.le_refl _) (I1.hok.fresh (Nat.le_refl _))
noncomputable def iRng1 (ta : TA) : TI := fun σ H R => ta σ H fun vs H1 => ∃ j : Int, vs = [.int j] ∧ -(2 ^ 62) ≤ j ∧ j < 2 ^ 62 ∧ R (Itr 0 j.toNat) H1
theorem pi_range1 {a : Expr} {ta : TA} {p pos : Pos} (hg : Gl X "range") (hm : X.mg "range" = none) (ha : PA X [a] ta) (hs : starEach [a] X.env = [(false, eval a X.env)] := by rfl) : PI X tg (.Call (.Name "range" p) [a] [] pos) (iRng1 ta) := by
  intro pins s σ H R I h
  refine Call_ (ld_blt I hg hm boot_range (PyProof.Rows.callWith_type1 (thn (ha pos pins s σ H _ I h) fun us s1 ⟨vs, H1, I1, r1, q1⟩ => ?_) hs rfl))
  obtain ⟨j, e, q1, q2, q⟩ := q1
  subst e
  cases r1 with
  | cons r rr =>
    cases rr
    obtain ⟨t, rfl⟩ := r
    exact call_range_1 (range_it I1 (by omega) (by omega) q1 q2 (by simpa using q))
noncomputable def tFor (wi : TI) (g : TG) (tb : TS) : TS := fun D σ H => wi σ H fun J H1 => ∃ W : Nat → Nat → St → Hp → Prop, (∃ m, W 0 m σ H1) ∧ ∀ i m σ H, W i m σ H →
  (J.stop i H ∧ D.nx σ H) ∨ (J.go i H ∧ ∃ N : St → Hp → Prop, (∀ σ' H', N σ' H' → ∃ m', m' < m ∧ W (i + 1) m' σ' H') ∧ ∀ x H', J.yld i H x H' → g x σ H' fun σ2 H2 => tb { D with nx := N, ct := N, bk := D.nx } σ2 H2)
noncomputable def pinsAt (fp : List Addr) (h : Heap) : List (Addr × Obj) := fp.filterMap fun b => (h.get? b).map fun o => (b, o)
theorem mem_pinsAt {fp : List Addr} {h : Heap} {b : Addr} {o : Obj} (hb : b ∈ fp) (e : h.get? b = some o) : (b, o) ∈ pinsAt fp h := List.mem_filterMap.mpr ⟨b, hb, by rw [e]; rfl⟩
theorem of_pinsAt {fp : List Addr} {h : Heap} {p : Addr × Obj} (hp : p ∈ pinsAt fp h) : p.1 ∈ fp ∧ h.get? p.1 = some p.2 := by
  obtain ⟨b, hb, e⟩ := List.mem_filterMap.mp hp
  cases q : h.get? b with
  | none => rw [q] at e; cases e
  | some o =>
    rw [q] at e
    have e' : (b, o) = p := Option.some.inj e
    subst e'
    exact ⟨hb, q⟩
theorem Inv.pinned {pins : List (Addr × Obj)} {σ : St} {H : Hp} {s : Shared} {fp : List Addr} (I : Inv X pins σ H s) (hf : ∀ b ∈ fp, FpOk X pins H b) (ho : ∀ b ∈ fp, ∃ o, s.heap.get? b = some o ∧ ∀ v, o.data ≠ .cell v) : Inv X (pins ++ pinsAt fp s.heap) σ H s :=
  I.pins_of fun p hp => (List.mem_append.mp hp).elim (fun z => I.pin p (List.mem_append_right _ z)) fun z => by
    obtain ⟨hb, e⟩ := of_pinsAt z
    obtain ⟨f0, f1, f2, _⟩ := hf p.1 hb
    obtain ⟨o, e', d⟩ := ho p.1 hb
    rw [e] at e'; cases e'
    exact ⟨e, f0, f1, f2, d⟩
theorem Inv.unpinned {pins pl : List (Addr × Obj)} {σ : St} {H : Hp} {s : Shared} (I : Inv X (pins ++ pl) σ H s) : Inv X pins σ H s := I.pins_of fun p hp => I.pin p (List.mem_append_right _ (List.mem_append_left _ hp))
theorem ps_for {iter : Expr} {body : List Stmt} {wi : TI} {g : TG} {tb : TS} {pos : Pos} (hp : PassesOwn (model X.prog X.w) X.A X.env X.xe) (hc : X.calm = true) (hi : PI X tg iter wi) (hg : PG X tg g) (hb : PSs X body tb)
    (hs : ∀ x, foldedSetIterable iter X.env x = pure x := by intro _; rfl) : PS X (.For tg iter body [] pos) (tFor wi g tb) := by
  intro pins s σ H D I h
  refine wpAny_For (thn (hi pins s σ H _ I h) fun v s1 h1 => thn h1 fun itv s2 h2 => ?_) hs
  obtain ⟨it, fp, tn, J, H2, e, I2, T, st2, f2, W, ⟨m0, w0⟩, turn⟩ := h2
  subst e
  -- what stays true of the iterator's objects through the loop
  have stat : ∀ {H' : Hp}, (∀ b ∈ fp, H' b = none) → ∀ b ∈ fp, FpOk X pins H' b := fun hn b hb => ⟨hn b hb, (f2 b hb).2⟩
  refine codeAny_forLoop_any (fun n s' => ∃ i σ' H', Inv X pins σ' H' s' ∧ tn i s'.heap ∧ (∀ b ∈ fp, H' b = none) ∧ W i n σ' H') ?_ m0 ⟨0, σ, H2, I2, st2, fun b hb => (f2 b hb).1, w0⟩
  rintro n s3 ⟨i, σ3, H3, I3, st3, fr3, w3⟩
  rcases turn i n σ3 H3 w3 with ⟨stop, qn⟩ | ⟨go, N, hN, step⟩
  · refine wpAny_passesOwn hp (thn (T.done X rfl rfl rfl hc i pins s3 σ3 H3 X.xe I3 (stat fr3) st3 stop) fun r s4 ⟨hr, I4⟩ => ?_)
    subst hr
    exact wpAny_execs_nil ⟨σ3, H3, I4, qn⟩
  · refine wpAny_passesOwn hp (thn (T.item X rfl rfl rfl hc i pins s3 σ3 H3 X.xe I3 (stat fr3) st3 go) fun r s4 ⟨u, hr, h4⟩ => ?_)
    subst hr
    refine wpAny_passesOwn hp (thn h4 fun _ s5 ⟨x, H5, I5, r5, y5, st5, fr5⟩ => ?_)
    have I5' := I5.pinned (stat fr5) (T.obj _ _ st5)
    refine wpAny_passesOwn hp (thn (hg _ s5 σ3 H5 x u _ I5' r5 (step x H5 y5)) fun _ s6 ⟨σ6, H6, I6, q6⟩ => ?_)
    refine wpAny_passesOwn hp (thn (hb _ s6 σ6 H6 _ I6 q6) fun f s7 q7 => ?_)
    have again : ∀ {σ7 : St} {H7 : Hp}, Inv X (pins ++ pinsAt fp s5.heap) σ7 H7 s7 → N σ7 H7 → ∃ m, m < n ∧ ∃ i σ' H', Inv X pins σ' H' s7 ∧ tn i s7.heap ∧ (∀ b ∈ fp, H' b = none) ∧ W i m σ' H' := fun {σ7 H7} I7 n7 => by
      obtain ⟨m', hm, w7⟩ := hN σ7 H7 n7
      refine ⟨m', hm, i + 1, σ7, H7, I7.unpinned, T.keep _ _ _ st5 fun b hb o e => (I7.pin (b, o) (List.mem_append_right _ (List.mem_append_right _ (mem_pinsAt hb e)))).1, fun b hb => ?_, w7⟩
      obtain ⟨o, e, d⟩ := T.obj _ _ st5 b hb
      exact (I7.pin (b, o) (List.mem_append_right _ (List.mem_append_right _ (mem_pinsAt hb e)))).2.1
    cases f with
    | next => obtain ⟨σ7, H7, I7, n7⟩ := q7; exact again I7 n7
    | cont => obtain ⟨σ7, H7, I7, n7⟩ := q7; exact again I7 n7
    | brk => obtain ⟨σ7, H7, I7, q7⟩ := q7; exact ⟨σ7, H7, I7.unpinned, q7⟩
    | ret v => obtain ⟨x7, σ7, H7, I7, r7, q7⟩ := q7; exact ⟨x7, σ7, H7, I7.unpinned, r7, q7⟩
end

theorem for_list {K : PySem.W.Frag} {a : Addr} {xs : List V} {g : TG} {tb : TS} {D : Ends} {σ : St} {H : Hp} (Pv : Nat → St → Hp → Prop) (h0 : Pv 0 σ H) (hl : ∀ i σ H, i ≤ xs.length → Pv i σ H → SqL K H a xs)
    (hs : ∀ i x σ H, xs[i]? = some x → Pv i σ H → g x σ H fun σ2 H2 => tb { D with nx := Pv (i + 1), ct := Pv (i + 1), bk := D.nx } σ2 H2) (hd : ∀ σ H, Pv xs.length σ H → D.nx σ H) :
    ∃ W : Nat → Nat → St → Hp → Prop, (∃ m, W 0 m σ H) ∧ ∀ i m σ H, W i m σ H →
      ((Itl K a).stop i H ∧ D.nx σ H) ∨ ((Itl K a).go i H ∧ ∃ N : St → Hp → Prop, (∀ σ' H', N σ' H' → ∃ m', m' < m ∧ W (i + 1) m' σ' H') ∧ ∀ x H', (Itl K a).yld i H x H' → g x σ H' fun σ2 H2 => tb { D with nx := N, ct := N, bk := D.nx } σ2 H2) := by
  refine ⟨fun i m σ H => m = xs.length - i ∧ i ≤ xs.length ∧ Pv i σ H, ⟨xs.length, by simp, Nat.zero_le _, h0⟩, ?_⟩
  rintro i m σ H ⟨rfl, hi, p⟩
  have q := hl i σ H hi p
  by_cases hlt : i < xs.length
  · refine .inr ⟨⟨xs, xs[i], q, by simp [hlt]⟩, Pv (i + 1), fun σ' H' p' => ⟨xs.length - (i + 1), by omega, rfl, hlt, p'⟩, fun x H' y => ?_⟩
    obtain ⟨e, y⟩ := y
    subst e
    exact hs i x σ _ (y xs q) p
  · have e : i = xs.length := by omega
    subst e
    exact .inl ⟨⟨xs, q, Nat.le_refl _⟩, hd σ H p⟩
theorem for_range {lo : Int} {n : Nat} {g : TG} {tb : TS} {D : Ends} {σ : St} {H : Hp} (Pv : Nat → St → Hp → Prop) (h0 : Pv 0 σ H)
    (hs : ∀ i σ H, i < n → Pv i σ H → g (.int (lo + i)) σ H fun σ2 H2 => tb { D with nx := Pv (i + 1), ct := Pv (i + 1), bk := D.nx } σ2 H2) (hd : ∀ σ H, Pv n σ H → D.nx σ H) :
    ∃ W : Nat → Nat → St → Hp → Prop, (∃ m, W 0 m σ H) ∧ ∀ i m σ H, W i m σ H →
      ((Itr lo n).stop i H ∧ D.nx σ H) ∨ ((Itr lo n).go i H ∧ ∃ N : St → Hp → Prop, (∀ σ' H', N σ' H' → ∃ m', m' < m ∧ W (i + 1) m' σ' H') ∧ ∀ x H', (Itr lo n).yld i H x H' → g x σ H' fun σ2 H2 => tb { D with nx := N, ct := N, bk := D.nx } σ2 H2) := by
  refine ⟨fun i m σ H => m = n - i ∧ i ≤ n ∧ Pv i σ H, ⟨n, by simp, Nat.zero_le _, h0⟩, ?_⟩
  rintro i m σ H ⟨rfl, hi, p⟩
  by_cases hlt : i < n
  · refine .inr ⟨hlt, Pv (i + 1), fun σ' H' p' => ⟨n - (i + 1), by omega, rfl, hlt, p'⟩, fun x H' y => ?_⟩
    obtain ⟨e, y⟩ := y
    subst e y
    exact hs i σ _ hlt p
  · have e : i = n := by omega
    subst e
    exact .inl ⟨Nat.le_refl _, hd σ H p⟩
end L2

namespace L2
open PySem PySem.Spec PyProof.Rows

noncomputable abbrev R2 := V → V → Hp → VK → Prop
noncomputable def OpR (X : Cx) (f : Value → Value → Sem Value) (r : R2) : Prop :=
  ∀ (pins : List (Addr × Obj)) (s : Shared) (σ : St) (H : Hp) (x y : V) (v u : Value) (Q : VK), Inv X pins σ H s → RelV x v → RelV y u → r x y H Q →
    wpAny (model X.prog X.w) X.A (f v u) (EP X pins σ Q) X.xe s
noncomputable def UnR (X : Cx) (f : Value → Sem Value) (r : V → Hp → VK → Prop) : Prop :=
  ∀ (pins : List (Addr × Obj)) (s : Shared) (σ : St) (H : Hp) (x : V) (v : Value) (Q : VK), Inv X pins σ H s → RelV x v → r x H Q →
    wpAny (model X.prog X.w) X.A (f v) (EP X pins σ Q) X.xe s
noncomputable def CallR (X : Cx) (f : Value) (r : List V → Hp → VK → Prop) : Prop :=
  ∀ (pins : List (Addr × Obj)) (s : Shared) (σ : St) (H : Hp) (xs : List V) (us : List Value) (Q : VK), Inv X pins σ H s → Vals xs us → r xs H Q →
    wpAny (model X.prog X.w) X.A (call f us) (EP X pins σ Q) X.xe s
noncomputable def tOp (r : R2) (ta tb : TE) : TE := fun σ H Q => ta σ H fun x H1 => tb σ H1 fun y H2 => r x y H2 Q
noncomputable def tUn (r : V → Hp → VK → Prop) (ta : TE) : TE := fun σ H Q => ta σ H fun x H1 => r x H1 Q
noncomputable def rI (C : Int → Int → Prop) (g : Int → Int → V) : R2 := fun x y H Q => ∃ i j, x = .int i ∧ y = .int j ∧ C i j ∧ Q (g i j) H
noncomputable def rI0 (g : Int → Int → V) : R2 := fun x y H Q => ∃ i j, x = .int i ∧ y = .int j ∧ Q (g i j) H
noncomputable def rU (g : Int → V) : V → Hp → VK → Prop := fun x H Q => ∃ i, x = .int i ∧ Q (g i) H

section
variable {X : Cx} {a b c : Expr} {ta tb tc : TE} {pos : Pos}

theorem binT (ha : PE X a ta) (hb : PE X b tb) {pins : List (Addr × Obj)} {s : Shared} {σ : St} {H : Hp} {R : V → V → Hp → Prop} (I : Inv X pins σ H s)
    (h : ta σ H fun x H1 => tb σ H1 fun y H2 => R x y H2) {Q : Value → Shared → Prop} {f : Value → Value → Sem Value}
    (hf : ∀ v u s2 x y H2, Inv X pins σ H2 s2 → RelV x v → RelV y u → R x y H2 → wpAny (model X.prog X.w) X.A (f v u) Q X.xe s2) :
    wpAny (model X.prog X.w) X.A (eval a X.env) (fun v s₁ => wpAny (model X.prog X.w) X.A (eval b X.env) (fun u s₂ => wpAny (model X.prog X.w) X.A (f v u) Q X.xe s₂) X.xe s₁) X.xe s := by
  refine thn (ha pins s σ H _ I h) fun v s1 ⟨x, H1, I1, r1, q1⟩ => ?_
  refine thn (hb pins s1 σ H1 _ I1 q1) fun u s2 ⟨y, H2, I2, r2, q2⟩ => ?_
  exact hf v u s2 x y H2 I2 r1 r2 q2

theorem pe_op {op : Operator} {r : R2} (ho : OpR X (binaryOp op) r) (ha : PE X a ta) (hb : PE X b tb) : PE X (.BinOp a op b pos) (tOp r ta tb) := by
  intro pins s σ H Q I h
  exact wpAny_BinOp (binT ha hb I h fun v u s2 x y H2 I2 rx ry q => ho pins s2 σ H2 x y v u Q I2 rx ry q)
theorem pe_un {op : UnaryOp} {r : V → Hp → VK → Prop} (ho : UnR X (unaryOp op) r) (ha : PE X a ta) : PE X (.UnaryOp op a pos) (tUn r ta) := by
  intro pins s σ H Q I h
  exact UnaryOp_ (thn (ha pins s σ H _ I h) fun v s1 ⟨x, H1, I1, r1, q1⟩ => ho pins s1 σ H1 x v Q I1 r1 q1)
theorem opI {f : Value → Value → Sem Value} {C : Int → Int → Prop} {g : Int → Int → Int}
    (rule : ∀ (i j : Int) (t u : Tok) (s : Shared) (Q : Value → Shared → Prop) (E : Value → Shared → Prop), C i j → Q (.int (g i j) s.toks) { s with toks := s.toks + 1 } → wpAny (model X.prog X.w) X.A (f (.int i t) (.int j u)) Q E s) :
    OpR X f (rI C fun i j => .int (g i j)) := by
  intro pins s σ H x y v u Q I rx ry h
  obtain ⟨i, j, rfl, rfl, hc, q⟩ := h
  obtain ⟨t, rfl⟩ := rx
  obtain ⟨t', rfl⟩ := ry
  exact rule i j t t' s _ _ hc ⟨.int (g i j), H, I.tok _, ⟨_, rfl⟩, q⟩
theorem opI0 {f : Value → Value → Sem Value} {g : Int → Int → Int}
    (rule : ∀ (i j : Int) (t u : Tok) (s : Shared) (Q : Value → Shared → Prop) (E : Value → Shared → Prop), Q (.int (g i j) s.toks) { s with toks := s.toks + 1 } → wpAny (model X.prog X.w) X.A (f (.int i t) (.int j u)) Q E s) :
    OpR X f (rI0 fun i j => .int (g i j)) := by
  intro pins s σ H x y v u Q I rx ry h
  obtain ⟨i, j, rfl, rfl, q⟩ := h
  obtain ⟨t, rfl⟩ := rx
  obtain ⟨t', rfl⟩ := ry
  exact rule i j t t' s _ _ ⟨.int (g i j), H, I.tok _, ⟨_, rfl⟩, q⟩
theorem opB0 {f : Value → Value → Sem Value} {g : Int → Int → Bool}
    (rule : ∀ (i j : Int) (t u : Tok) (s : Shared) (Q : Value → Shared → Prop) (E : Value → Shared → Prop), Q (.bool (g i j)) s → wpAny (model X.prog X.w) X.A (f (.int i t) (.int j u)) Q E s) :
    OpR X f (rI0 fun i j => .bl (g i j)) := by
  intro pins s σ H x y v u Q I rx ry h
  obtain ⟨i, j, rfl, rfl, q⟩ := h
  obtain ⟨t, rfl⟩ := rx
  obtain ⟨t', rfl⟩ := ry
  exact rule i j t t' s _ _ ⟨.bl (g i j), H, I, rfl, q⟩

noncomputable def CDiv (i j : Int) : Prop := 0 < j ∧ j < 1073741824
noncomputable def CPow (i j : Int) : Prop := 0 ≤ j ∧ j ≤ 1000000 ∧ i.natAbs < 2 ^ 64
noncomputable def CMul (i j : Int) : Prop := (-(2 ^ 64) < i ∧ i < 2 ^ 64) ∨ (-(2 ^ 64) < j ∧ j < 2 ^ 64)
theorem CMul.ok {i j : Int} (h : CMul i j) : IntMulOk i j := by
  rcases h with ⟨h1, h2⟩ | ⟨h1, h2⟩
  · exact .of_left (intBits_le_64 h1 h2)
  · exact .of_right (intBits_le_64 h1 h2)
theorem op_add : OpR X (binaryOp .Add) (rI0 fun i j => .int (i + j)) := opI0 fun _ _ _ _ _ _ _ q => add_int q
theorem op_sub : OpR X (binaryOp .Sub) (rI0 fun i j => .int (i - j)) := opI0 fun _ _ _ _ _ _ _ q => sub_int q
theorem op_mul : OpR X (binaryOp .Mult) (rI CMul fun i j => .int (i * j)) := opI fun _ _ _ _ _ _ _ hc q => mul_int q hc.ok
theorem op_fdiv : OpR X (binaryOp .FloorDiv) (rI CDiv fun i j => .int (i / j)) := opI fun i j _ _ _ _ _ hc q => by
  have h1 : (0 : Int) < j := hc.1
  have h2 : j < 1073741824 := hc.2
  exact floordiv_int (by omega) (by rw [Int.fdiv_eq_ediv_of_nonneg i (by omega)]; exact q) (.inl (PyProof.noPylong_small (by omega)))
theorem op_mod : OpR X (binaryOp .Mod) (rI (fun _ j => 0 < j) fun i j => .int (i % j)) := opI fun i j _ _ _ _ _ hc q => by
  have h1 : (0 : Int) < j := hc
  exact mod_int' (by omega) (by rw [Int.fmod_eq_emod_of_nonneg i (by omega)]; exact q)
theorem op_pow : OpR X (binaryOp .Pow) (rI CPow fun i j => .int (i ^ j.toNat)) := opI fun _ _ _ _ _ _ _ hc q => pow_int_small hc.1 hc.2.1 hc.2.2 q
theorem unI {f : Value → Sem Value} {g : Int → Int}
    (rule : ∀ (i : Int) (t : Tok) (s : Shared) (Q : Value → Shared → Prop) (E : Value → Shared → Prop), Q (.int (g i) s.toks) { s with toks := s.toks + 1 } → wpAny (model X.prog X.w) X.A (f (.int i t)) Q E s) :
    UnR X f (rU fun i => .int (g i)) := by
  intro pins s σ H x v Q I rx h
  obtain ⟨i, rfl, q⟩ := h
  obtain ⟨t, rfl⟩ := rx
  exact rule i t s _ _ ⟨.int (g i), H, I.tok _, ⟨_, rfl⟩, q⟩
theorem un_neg : UnR X (unaryOp .USub) (rU fun i => .int (-i)) := unI fun _ _ _ _ _ q => neg_int q
end

noncomputable def scal : V → V → Bool
  | .non, .non => true | .non, .int _ => true | .int _, .non => true | .non, .bl _ => true | .bl _, .non => true | .non, .str _ => true | .str _, .non => true
  | .int _, .int _ => true | .bl _, .bl _ => true | .str _, .str _ => true | .byt _, .byt _ => true
  | .int _, .str _ => true | .str _, .int _ => true | .bl _, .str _ => true | .str _, .bl _ => true
  | _, _ => false
noncomputable def rEq : R2 := fun x y H Q => scal x y = true ∧ Q (.bl (decide (x = y))) H
noncomputable def rNe : R2 := fun x y H Q => scal x y = true ∧ Q (.bl (!decide (x = y))) H

theorem dec_int {i j : Int} : decide (V.int i = V.int j) = (i == j) := by
  rw [Bool.eq_iff_iff]
  simp
theorem dec_bl {i j : Bool} : decide (V.bl i = V.bl j) = (i == j) := by
  rw [Bool.eq_iff_iff]
  simp
theorem dec_str {i j : Str} : decide (V.str i = V.str j) = (i == j) := by
  rw [Bool.eq_iff_iff]
  simp
theorem dec_byt {i j : Array UInt8} : decide (V.byt i = V.byt j) = (i.toList == j.toList) := by
  rw [Bool.eq_iff_iff]
  cases i
  cases j
  simp

section
variable {X : Cx} {a b c : Expr} {ta tb tc : TE} {pos : Pos}
theorem fin_bl {pins : List (Addr × Obj)} {σ : St} {H : Hp} {s : Shared} {Q : VK} {k k' : Bool} (I : Inv X pins σ H s) (q : Q (.bl k) H) (e : k = k') : EP X pins σ Q (.bool k') s := by
  subst e
  exact ⟨.bl k, H, I, rfl, q⟩
theorem op_eq : OpR X (compareOp .Eq) rEq := by
  intro pins s σ H x y v u Q I rx ry h
  obtain ⟨hs, q⟩ := h
  cases x with
  | non =>
    cases rx
    cases y with
    | non => cases ry; exact PySem.EqNone.eq_none_none (fin_bl I q (by simp))
    | bl j => cases ry; exact PySem.EqNone.eq_none_bool (fin_bl I q (by simp))
    | int j => obtain ⟨t', rfl⟩ := ry; exact PySem.EqNone.eq_none_int (fin_bl I q (by simp))
    | str j => obtain ⟨t', rfl⟩ := ry; exact PySem.EqNone.eq_none_str (fin_bl I q (by simp))
    | _ => exact absurd (show false = true from hs) Bool.false_ne_true
  | bl i =>
    cases rx
    cases y with
    | non => cases ry; exact PySem.EqNone.eq_bool_none (fin_bl I q (by simp))
    | bl j => cases ry; exact eq_bool (fin_bl I q dec_bl)
    | str j => obtain ⟨t', rfl⟩ := ry; exact PySem.EqMixed.eq_bool_str (fin_bl I q (by simp))
    | _ => exact absurd (show false = true from hs) Bool.false_ne_true
  | int i =>
    obtain ⟨t, rfl⟩ := rx
    cases y with
    | non => cases ry; exact PySem.EqNone.eq_int_none (fin_bl I q (by simp))
    | int j => obtain ⟨t', rfl⟩ := ry; exact eq_int (fin_bl I q dec_int)
    | str j => obtain ⟨t', rfl⟩ := ry; exact PySem.EqMixed.eq_int_str (fin_bl I q (by simp))
    | _ => exact absurd (show false = true from hs) Bool.false_ne_true
  | str i =>
    obtain ⟨t, rfl⟩ := rx
    cases y with
    | non => cases ry; exact PySem.EqNone.eq_str_none (fin_bl I q (by simp))
    | bl j => cases ry; exact PySem.EqMixed.eq_str_bool (fin_bl I q (by simp))
    | int j => obtain ⟨t', rfl⟩ := ry; exact PySem.EqMixed.eq_str_int (fin_bl I q (by simp))
    | str j => obtain ⟨t', rfl⟩ := ry; exact eq_str (fin_bl I q dec_str)
    | _ => exact absurd (show false = true from hs) Bool.false_ne_true
  | byt i =>
    obtain ⟨t, rfl⟩ := rx
    cases y with
    | byt j => obtain ⟨t', rfl⟩ := ry; exact PySem.W.eq_bytes (fin_bl I q dec_byt)
    | _ => exact absurd (show false = true from hs) Bool.false_ne_true
  | _ => cases y <;> exact absurd (show false = true from hs) Bool.false_ne_true
theorem op_ne : OpR X (compareOp .NotEq) rNe := by
  intro pins s σ H x y v u Q I rx ry h
  obtain ⟨hs, q⟩ := h
  cases x with
  | non =>
    cases rx
    cases y with
    | non => cases ry; exact PySem.EqNone.ne_none_none (fin_bl I q (by simp))
    | bl j => cases ry; exact PySem.EqNone.ne_none_bool (fin_bl I q (by simp))
    | int j => obtain ⟨t', rfl⟩ := ry; exact PySem.EqNone.ne_none_int (fin_bl I q (by simp))
    | str j => obtain ⟨t', rfl⟩ := ry; exact PySem.EqNone.ne_none_str (fin_bl I q (by simp))
    | _ => exact absurd (show false = true from hs) Bool.false_ne_true
  | bl i =>
    cases rx
    cases y with
    | non => cases ry; exact PySem.EqNone.ne_bool_none (fin_bl I q (by simp))
    | bl j => cases ry; exact ne_bool (fin_bl I q (congrArg not dec_bl))
    | str j => obtain ⟨t', rfl⟩ := ry; exact PySem.EqMixed.ne_bool_str (fin_bl I q (by simp))
    | _ => exact absurd (show false = true from hs) Bool.false_ne_true
  | int i =>
    obtain ⟨t, rfl⟩ := rx
    cases y with
    | non => cases ry; exact PySem.EqNone.ne_int_none (fin_bl I q (by simp))
    | int j => obtain ⟨t', rfl⟩ := ry; exact ne_int (fin_bl I q (congrArg not dec_int))
    | str j => obtain ⟨t', rfl⟩ := ry; exact PySem.EqMixed.ne_int_str (fin_bl I q (by simp))
    | _ => exact absurd (show false = true from hs) Bool.false_ne_true
  | str i =>
    obtain ⟨t, rfl⟩ := rx
    cases y with
    | non => cases ry; exact PySem.EqNone.ne_str_none (fin_bl I q (by simp))
    | bl j => cases ry; exact PySem.EqMixed.ne_str_bool (fin_bl I q (by simp))
    | int j => obtain ⟨t', rfl⟩ := ry; exact PySem.EqMixed.ne_str_int (fin_bl I q (by simp))
    | str j => obtain ⟨t', rfl⟩ := ry; exact ne_str (fin_bl I q (congrArg not dec_str))
    | _ => exact absurd (show false = true from hs) Bool.false_ne_true
  | byt i =>
    obtain ⟨t, rfl⟩ := rx
    cases y with
    | byt j => obtain ⟨t', rfl⟩ := ry; exact PySem.W.ne_bytes (fin_bl I q (congrArg not dec_byt))
    | _ => exact absurd (show false = true from hs) Bool.false_ne_true
  | _ => cases y <;> exact absurd (show false = true from hs) Bool.false_ne_true

theorem op_lt : OpR X (compareOp .Lt) (rI0 fun i j => .bl (decide (i < j))) := opB0 fun _ _ _ _ _ _ _ q => lt_int q
theorem op_le : OpR X (compareOp .LtE) (rI0 fun i j => .bl (decide (i ≤ j))) := opB0 fun _ _ _ _ _ _ _ q => le_int q
theorem op_gt : OpR X (compareOp .Gt) (rI0 fun i j => .bl (decide (j < i))) := opB0 fun _ _ _ _ _ _ _ q => gt_int q
theorem op_ge : OpR X (compareOp .GtE) (rI0 fun i j => .bl (decide (j ≤ i))) := opB0 fun _ _ _ _ _ _ _ q => ge_int q
theorem op_in_str : OpR X (compareOp .In) (fun x y H Q => ∃ i j, x = .str i ∧ y = .str j ∧ Q (.bl (!(Builtin.Str.occurrences j i 0 j.length 1).isEmpty)) H) := by
  intro pins s σ H x y v u Q I rx ry h
  obtain ⟨i, j, rfl, rfl, q⟩ := h
  obtain ⟨t, rfl⟩ := rx
  obtain ⟨t', rfl⟩ := ry
  exact in_str (fin_bl I q rfl)

theorem op_isN : OpR X (compareOp .Is) (fun x y H Q => y = .non ∧ Q (.bl (decide (x = .non))) H) := by
  intro pins s σ H x y v u Q I rx ry h
  obtain ⟨rfl, q⟩ := h
  cases ry
  refine is_none_gen (fin_bl I q ?_)
  cases x <;> first
    | (cases rx; rfl)
    | (obtain ⟨t, rfl⟩ := rx; rfl)
theorem nomark (b : Expr) {op : CmpOp} (h : op ≠ .In := by decide) (h2 : op ≠ .NotIn := by decide) : behindInMarks op b = false := by
  have e1 : (op == CmpOp.In) = false := by cases op <;> first | rfl | exact absurd rfl h
  have e2 : (op == CmpOp.NotIn) = false := by cases op <;> first | rfl | exact absurd rfl h2
  cases b <;> simp [behindInMarks, e1, e2]
theorem pe_cmpR {op : CmpOp} {r : R2} (ho : OpR X (compareOp op) r) (ha : PE X a ta) (hb : PE X b tb) (hm : behindInMarks op b = false) : PE X (.Compare a [op] [b] pos) (tOp r ta tb) := by
  intro pins s σ H Q I h
  exact wpAny_Compare1 (binT ha hb I h fun v u s2 x y H2 I2 rx ry q => ho pins s2 σ H2 x y v u Q I2 rx ry q) hm
noncomputable def tTest (t : TE) : TT := fun σ H Q => t σ H fun x H' => ∃ k, x = .bl k ∧ Q k H'
theorem pt_cmpR {op : CmpOp} {r : R2} (ho : OpR X (compareOp op) r) (ha : PE X a ta) (hb : PE X b tb) (hm : behindInMarks op b = false) : PT X (.Compare a [op] [b] pos) (tTest (tOp r ta tb)) := by
  intro pins s σ H Q I h
  refine wpAny_isTrue_Compare1 (thn (ha pins s σ H _ I h) fun v s1 ⟨x, H1, I1, r1, q1⟩ => thn (hb pins s1 σ H1 _ I1 q1) fun u s2 ⟨y, H2, I2, r2, q2⟩ =>
    thn (ho pins s2 σ H2 x y v u _ I2 r1 r2 q2) fun c s3 ⟨z, H3, I3, r3, k, e, q3⟩ => ?_) hm
  subst e
  cases r3
  exact wpAny_truthy_bool ⟨H3, I3, q3⟩
noncomputable def tChain (r r' : R2) (ta tb tc : TE) : TE := fun σ H Q => ta σ H fun x H1 => tb σ H1 fun y H2 => r x y H2 fun z H3 => ∃ k, z = .bl k ∧
  (if k = true then tc σ H3 fun w' H4 => r' y w' H4 Q else Q (.bl false) H3)
theorem pe_chain {op op' : CmpOp} {r r' : R2} (ho : OpR X (compareOp op) r) (ho' : OpR X (compareOp op') r') (ha : PE X a ta) (hb : PE X b tb) (hc : PE X c tc)
    (hm : lastMarks [op, op'] [b, c] = false := by with_unfolding_all rfl) : PE X (.Compare a [op, op'] [b, c] pos) (tChain r r' ta tb tc) := by
  intro pins s σ H Q I h
  refine Compare_chain (thn (ha pins s σ H _ I h) fun v s1 ⟨x, H1, I1, r1, q1⟩ => chain_link (thn (hb pins s1 σ H1 _ I1 q1) fun u s2 ⟨y, H2, I2, r2, q2⟩ =>
    thn (ho pins s2 σ H2 x y v u _ I2 r1 r2 q2) fun d s3 ⟨z, H3, I3, r3, k, e, q3⟩ => ?_)) hm
  subst e
  cases r3
  refine wpAny_truthy_bool ?_
  cases k with
  | false => exact ite_ff ⟨.bl false, H3, I3, rfl, q3⟩
  | true => exact ite_tt (chain_last (thn (hc pins s3 σ H3 _ I3 q3) fun w' s4 ⟨z', H4, I4, r4, q4⟩ => ho' pins s4 σ H4 y z' u w' Q I4 r2 r4 q4))
theorem pt_chain {op op' : CmpOp} {r r' : R2} (ho : OpR X (compareOp op) r) (ho' : OpR X (compareOp op') r') (ha : PE X a ta) (hb : PE X b tb) (hc : PE X c tc)
    (hm : lastMarks [op, op'] [b, c] = false := by with_unfolding_all rfl) : PT X (.Compare a [op, op'] [b, c] pos) (tTest (tChain r r' ta tb tc)) := by
  intro pins s σ H Q I h
  refine isTrue_chain (thn (ha pins s σ H _ I h) fun v s1 ⟨x, H1, I1, r1, q1⟩ => test_link (thn (hb pins s1 σ H1 _ I1 q1) fun u s2 ⟨y, H2, I2, r2, q2⟩ =>
    thn (ho pins s2 σ H2 x y v u _ I2 r1 r2 q2) fun d s3 ⟨z, H3, I3, r3, k, e, q3⟩ => ?_)) hm
  subst e
  cases r3
  refine wpAny_truthy_bool ?_
  cases k with
  | false =>
    obtain ⟨k', e', q'⟩ := q3
    cases e'
    exact ite_ff ⟨H3, I3, q'⟩
  | true =>
    refine ite_tt (test_last (thn (hc pins s3 σ H3 _ I3 q3) fun w' s4 ⟨z', H4, I4, r4, q4⟩ => thn (ho' pins s4 σ H4 y z' u w' _ I4 r2 r4 q4) fun d' s5 ⟨z2, H5, I5, r5, k2, e2, q5⟩ => ?_))
    subst e2
    cases r5
    exact wpAny_truthy_bool ⟨H5, I5, q5⟩

theorem line63 : (sizeLine : Nat) < 2 ^ 63 := by rw [sizeLine_eq]; decide
theorem op_add_str : OpR X (binaryOp .Add) (fun x y H Q => ∃ i j, x = .str i ∧ y = .str j ∧ i.length + j.length ≤ sizeLine ∧ Q (.str (i ++ j)) H) := by
  intro pins s σ H x y v u Q I rx ry h
  obtain ⟨i, j, rfl, rfl, hz, q⟩ := h
  obtain ⟨t, rfl⟩ := rx
  obtain ⟨t', rfl⟩ := ry
  exact add_str (fun t' tk => ⟨.str (i ++ j), H, I.tok _, ⟨_, rfl⟩, q⟩) hz
theorem vals1 {x : V} {us : List Value} (r : Vals [x] us) : ∃ u, us = [u] ∧ RelV x u := by
  cases r with
  | cons r1 r2 => cases r2; exact ⟨_, rfl, r1⟩
theorem vals2 {x y : V} {us : List Value} (r : Vals [x, y] us) : ∃ u w', us = [u, w'] ∧ RelV x u ∧ RelV y w' := by
  cases r with
  | cons r1 r2 =>
    cases r2 with
    | cons r3 r4 => cases r4; exact ⟨_, _, rfl, r1, r3⟩
theorem call_abs : CallR X (.builtin "abs") (fun xs H Q => ∃ i, xs = [.int i] ∧ Q (.int (if i < 0 then -i else i)) H) := by
  intro pins s σ H xs us Q I r h
  obtain ⟨i, rfl, q⟩ := h
  obtain ⟨u, rfl, t, rfl⟩ := vals1 r
  exact call_abs_int fun u tk => ⟨.int (if i < 0 then -i else i), H, I.tok _, ⟨_, rfl⟩, q⟩
theorem call_max2 (hc : X.calm = true) : CallR X (.builtin "max") (fun xs H Q => ∃ i j, xs = [.int i, .int j] ∧ Q (.int (if j > i then j else i)) H) := by
  intro pins s σ H xs us Q I r h
  obtain ⟨i, j, rfl, q⟩ := h
  obtain ⟨u, w', rfl, ⟨t, rfl⟩, ⟨t', rfl⟩⟩ := vals2 r
  refine max_two_ints (I.ok.hd hc) fun h' tk k => ⟨_, H, I.kept k, ?_, q⟩
  by_cases hj : j > i
  · rw [if_pos hj, if_pos hj]; exact ⟨_, rfl⟩
  · rw [if_neg hj, if_neg hj]; exact ⟨_, rfl⟩
theorem call_min2 (hc : X.calm = true) : CallR X (.builtin "min") (fun xs H Q => ∃ i j, xs = [.int i, .int j] ∧ Q (.int (if j < i then j else i)) H) := by
  intro pins s σ H xs us Q I r h
  obtain ⟨i, j, rfl, q⟩ := h
  obtain ⟨u, w', rfl, ⟨t, rfl⟩, ⟨t', rfl⟩⟩ := vals2 r
  refine min_two_ints (I.ok.hd hc) fun h' tk k => ⟨_, H, I.kept k, ?_, q⟩
  by_cases hj : j < i
  · rw [if_pos hj, if_pos hj]; exact ⟨_, rfl⟩
  · rw [if_neg hj, if_neg hj]; exact ⟨_, rfl⟩
theorem call_int1 : CallR X (.type "int") (fun xs H Q => (∃ i, xs = [.int i] ∧ Q (.int i) H) ∨ ∃ k, xs = [.bl k] ∧ Q (.int (if k then 1 else 0)) H) := by
  intro pins s σ H xs us Q I r h
  rcases h with ⟨i, rfl, q⟩ | ⟨k, rfl, q⟩
  · obtain ⟨u, rfl, t, rfl⟩ := vals1 r
    exact call_int_int ⟨.int i, H, I, ⟨_, rfl⟩, q⟩
  · obtain ⟨u, rfl, r1⟩ := vals1 r
    cases r1
    exact call_int_bool ⟨.int (if k then 1 else 0), H, I.tok _, ⟨_, rfl⟩, q⟩
theorem call_str_int : CallR X (.type "str") (fun xs H Q => ∃ i, xs = [.int i] ∧ i.natAbs.log2 < 1920 ∧ Q (.str (toString i)) H) := by
  intro pins s σ H xs us Q I r h
  obtain ⟨i, rfl, hz, q⟩ := h
  obtain ⟨u, rfl, t, rfl⟩ := vals1 r
  exact PySem.P.str_of_int hz ⟨.str _, H, I.tok _, ⟨_, rfl⟩, q⟩
end
end L2

namespace L2
open PySem PySem.Spec PyProof.Rows

structure ObjM (h : Heap) (x dx C : Addr) (mA : Str → Option Value) : Prop where
  obj : h.get? x = some (PySem.W.instObj C dx)
  ns : h.Ns1 dx mA
  ne : dx ≠ x

theorem lookIn_ns {h : Heap} {dx : Addr} {mA : Str → Option Value} (n : h.Ns1 dx mA) : ∃ od, h.get? dx = some od ∧ ∀ name, PySem.W.lookIn name od = some (mA name) := by
  obtain ⟨o, es, ep, ho, hd, hk, _, hm⟩ := n
  refine ⟨o, ho, fun name => ?_⟩
  have e := hm name
  unfold nsFind findBy at e
  rw [← Array.find?_toList] at e
  unfold PySem.W.lookIn
  rw [hd]
  dsimp only
  split
  · rename_i y q
    rw [q] at e
    exact congrArg some e
  · rename_i q
    rw [q] at e
    have a : es.toList.any (·.refKey) = false := by
      rw [List.any_eq_false]
      intro y hy
      obtain ⟨z, t, hkey⟩ := hk y (Array.mem_toList_iff.mp hy)
      simp [DictEntry.refKey, hkey]
    have a' : ¬ es.toList.any (·.refKey) = true := by rw [a]; exact Bool.false_ne_true
    rw [if_neg a']
    exact congrArg some e

theorem ObjM.look {h : Heap} {x dx C : Addr} {mA : Str → Option Value} (I : ObjM h x dx C mA) : ∃ od, PySem.W.InstAt h x (PySem.W.instObj C dx) C (some od) ∧ ∀ name, PySem.W.lookIn name od = some (mA name) :=
  let ⟨od, ho, hl⟩ := lookIn_ns I.ns
  ⟨od, ⟨I.obj, rfl, rfl, ho⟩, hl⟩

section
variable {prog : Program} {w : World} {A : Around} {E : Value → Shared → Prop} {s : Shared} {K : PySem.W.Frag} {x dx C f : Addr} {mA : Str → Option Value} {name : Str} {v : Value}

end

section
variable {P : Program} {w : World} {H H' : Hp} {h h' : Heap} {a C dx : Addr} {fs fs' : List (Str × V)}
theorem ins_get (hok : HOk P w H h) (e : H a = some (.ins C dx fs)) : ∃ mA, ObjM h a dx C mA ∧ (∀ f, RelO (fs.lookup f) (mA f)) ∧ PySem.Within mA (fs.map (·.1)) ∧ fs.length ≤ 1000 ∧ H dx = some (.own a) := by
  obtain ⟨d, z, ne, ob, mA, n, r, q⟩ := (show ObjOk P w H h a (.ins C dx fs) from hok a _ e)
  exact ⟨mA, ⟨ob, n, ne⟩, r, q, z, d⟩
end

structure Cls (K : PySem.W.Frag) (C : Addr) : Prop where
  pg : PySem.W.plainGet K C Str.empty = true
  hd : PySem.W.hasDictIn K C = true
  po : PySem.W.plainOver K C = true
  sa : PySem.W.findIn K (.ref C) "__setattr__" = some (some (.builtin "object.__setattr__"))
theorem Cls.get {K : PySem.W.Frag} {C : Addr} (c : Cls K C) (f : Str) : PySem.W.plainGet K C f = true := c.pg
section
variable {X : Cx} {pins : List (Addr × Obj)} {σ : St} {H : Hp} {s : Shared} {a C dx : Addr} {fs : List (Str × V)} {f : Str} {v : V} {A : Around} {E : Value → Shared → Prop}

end

section
variable {X : Cx} {o e value : Expr} {f : Str} {pos pos' tpos : Pos} {ta tv : TE}
end

section
variable {X : Cx} {pins : List (Addr × Obj)} {σ : St} {H : Hp} {s : Shared} {A : Around} {E : Value → Shared → Prop} {Q : Value → Shared → Prop} {c : Value} {b : Bool}
inductive TyOf (K : PySem.W.Frag) (H : Hp) : V → Value → Prop where
  | non : TyOf K H .non (.type "NoneType")
  | bl (x : Bool) : TyOf K H (.bl x) (.type "bool")
  | int (i : Int) : TyOf K H (.int i) (.type "int")
  | str (x : Str) : TyOf K H (.str x) (.type "str")
  | flt (x : UInt64) : TyOf K H (.flt x) (.type "float")
  | lst {a : Addr} {xs : List V} (e : H a = some (.lst xs)) : TyOf K H (.ref a) (.type "list")
  | frz {a : Addr} {o : Obj} {xs : List V} (e : H a = some (.frz o (.lst xs))) : TyOf K H (.ref a) (.type "list")
  | tup {a : Addr} {xs : List V} (e : H a = some (.tup xs)) : TyOf K H (.ref a) (.type "tuple")
  | dK {a : Addr} {kvs : List (Key × V)} (e : H a = some (.dK kvs)) : TyOf K H (.ref a) (.type "dict")
  | dT {a : Addr} {kvs : List (List Key × V)} (e : H a = some (.dT kvs)) : TyOf K H (.ref a) (.type "dict")
  | ins {a C dx : Addr} {fs : List (Str × V)} (e : H a = some (.ins C dx fs)) (cl : Cls K C) (ha : PySem.W.findIn K (.ref C) "__class__" = some (some (.builtin "object.__class__")))
      (hn : PySem.W.specialIn K (.builtin "object.__class__") "__get__" = some (some (.builtin "getset_descriptor.__get__"))) (htk : PySem.W.takesIn K (.builtin "object.__class__") = some true)
      (hm : PySem.W.mroIn K C (.type "object") = some true) : TyOf K H (.ref a) (.ref C)
theorem isinst_ok {x : V} {u t : Value} (I : Inv X pins σ H s) (rx : RelV x u) (ty : TyOf X.K H x t) (e : PySem.W.kitOne X.K t c = some b) (h : ∀ tk, Q (.bool b) { s with toks := tk }) :
    wpAny (model X.prog X.w) A (call (.builtin "isinstance") [u, c]) Q E s := by
  cases ty with
  | non => cases (show u = Value.none from rx); exact PySem.W.kia_one PySem.W.kitx_none I.kIn True.intro e (fun z => nomatch z) h
  | bl y => cases (show u = Value.bool y from rx); exact PySem.W.kia_one PySem.W.kitx_bool I.kIn True.intro e (fun z => nomatch z) h
  | int i => obtain ⟨t, q⟩ := (show ∃ t, u = Value.int i t from rx); cases q; exact PySem.W.kia_one PySem.W.kitx_int I.kIn True.intro e (fun z => nomatch z) h
  | str y => obtain ⟨t, q⟩ := (show ∃ t, u = Value.str y t from rx); cases q; exact PySem.W.kia_one PySem.W.kitx_str I.kIn True.intro e (fun z => nomatch z) h
  | flt y => obtain ⟨t, q⟩ := (show ∃ t, u = Value.float y t from rx); cases q; exact PySem.W.kia_one PySem.W.kitx_float I.kIn True.intro e (fun z => nomatch z) h
  | @lst a xs ea =>
    cases (show u = Value.ref a from rx)
    obtain ⟨_, _, n, _, h1⟩ := (show ObjOk X.prog X.w H s.heap a (.lst xs) from I.hok a _ ea)
    exact PySem.W.kia_one PySem.W.kitx_list I.kIn ⟨_, h1, rfl⟩ e (fun z => nomatch z) h
  | @frz a ob xs ea =>
    cases (show u = Value.ref a from rx)
    obtain ⟨_, _, _, n, _, h1⟩ := (show ObjOk X.prog X.w H s.heap a (.frz ob (.lst xs)) from I.hok a _ ea)
    exact PySem.W.kia_one PySem.W.kitx_list I.kIn ⟨_, h1, rfl⟩ e (fun z => nomatch z) h
  | @tup a xs ea =>
    cases (show u = Value.ref a from rx)
    obtain ⟨_, _, _, p⟩ := (show ObjOk X.prog X.w H s.heap a (.tup xs) from I.hok a _ ea)
    obtain ⟨o, h1, h2, _⟩ := p
    exact PySem.W.kia_one PySem.W.kitx_tuple I.kIn ⟨o, h1, h2⟩ e (fun z => nomatch z) h
  | @dK a kvs ea =>
    cases (show u = Value.ref a from rx)
    obtain ⟨_, _, vs, _, p⟩ := (show ObjOk X.prog X.w H s.heap a (.dK kvs) from I.hok a _ ea)
    obtain ⟨o, es, ep, h1, h2, _⟩ := p
    exact PySem.W.kia_one PySem.W.kitx_dict I.kIn ⟨o, h1, h2.1⟩ e (fun z => nomatch z) h
  | @dT a kvs ea =>
    cases (show u = Value.ref a from rx)
    obtain ⟨_, _, xs, _, o, es, ep, h1, h2, _⟩ := (show ObjOk X.prog X.w H s.heap a (.dT kvs) from I.hok a _ ea)
    exact PySem.W.kia_one PySem.W.kitx_dict I.kIn ⟨o, h1, h2.1⟩ e (fun z => nomatch z) h
  | @ins a C dx fs ea cl ha hn htk hm =>
    cases (show u = Value.ref a from rx)
    obtain ⟨mA, O, _⟩ := ins_get I.hok ea
    obtain ⟨od, J, _⟩ := O.look
    exact PySem.W.kia_one (PySem.W.kitx_own (cl.get _) cl.hd ha hn htk hm) I.kIn J e (fun z => nomatch z) h
end
end L2

namespace L2
open PySem PySem.Spec PyProof.Rows

structure Room (k : Nat) (A : Around) : Prop where
  hd : A.handled = none
  dp : A.depth + 3 * k + 5 < recursionLimit
  un : A.units + 16 * k + 200 < cLine
  gd : A.guards = some []
theorem Room.mono {j k : Nat} {A : Around} (r : Room k A) (h : j ≤ k) : Room j A := ⟨r.hd, by have := r.dp; omega, by have := r.un; omega, r.gd⟩
theorem Room.deeper {k : Nat} {A : Around} (r : Room (k + 1) A) (env : Env) : Room k (A.deeper env) :=
  ⟨r.hd, by have := r.dp; show A.depth + 1 + 3 * k + 5 < _; omega, by have := r.un; show A.units + 3 + 16 * k + 200 < _; omega, r.gd⟩
theorem Room.depth {k : Nat} {A : Around} (r : Room k A) : A.depth < recursionLimit := by have := r.dp; omega
theorem Room.units {k : Nat} {A : Around} (r : Room k A) : A.units + 64 < cLine := by have := r.un; omega
noncomputable def tNil : TA := fun _ H Q => Q [] H
noncomputable def tCons (ta : TE) (tr : TA) : TA := fun σ H Q => ta σ H fun x H1 => tr σ H1 fun xs H2 => Q (x :: xs) H2
section
variable {X : Cx} {e : Expr} {es : List Expr} {te : TE} {t : TA} {pos : Pos}
theorem pa_nil : PA X [] tNil := fun _ _ _ _ H Q I h => Calls.spliced_nil ⟨[], H, I, .nil, h⟩
theorem pa_cons (ha : PE X e te) (hr : PA X es t) (hs : starEach (e :: es) X.env = (false, eval e X.env) :: starEach es X.env := by rfl) : PA X (e :: es) (tCons te t) := by
  intro pos pins s σ H Q I h
  rw [hs]
  show wpAny _ _ (spliced ((false, eval e X.env) :: backTo pos (starEach es X.env))) _ _ s
  refine Calls.spliced_cons (thn (ha pins s σ H _ I h) fun u s1 ⟨x, H1, I1, r1, q1⟩ => ?_)
  exact thn (hr pos pins s1 σ H1 _ I1 q1) fun us s2 ⟨xs, H2, I2, r2, q2⟩ => ⟨x :: xs, H2, I2, .cons r1 r2, q2⟩

noncomputable def tTup (t : TA) : TE := fun σ H Q => t σ H fun xs H1 => xs.length ≤ sizeLine ∧ ∀ p, H1 p = none → Q (.ref p) (upd H1 p (.tup xs))
noncomputable def tLst (t : TA) : TE := fun σ H Q => t σ H fun xs H1 => xs.length ≤ sizeLine ∧ ∀ p, H1 p = none → Q (.ref p) (upd H1 p (.lst xs))
theorem pe_tup {x1} (h : PA X es t) : PE X (.Tuple es x1 pos) (tTup t) := by
  intro pins s σ H Q I hq
  refine wpAny_Tuple_spliced (thn (h pos pins s σ H _ I hq) fun us s1 ⟨xs, H1, I1, r, z, q⟩ => ⟨by rw [← r.length]; exact z, ?_⟩)
  have hf : H1 s1.heap.objs.size = none := I1.hok.fresh (Nat.le_refl _)
  refine ⟨.ref s1.heap.objs.size, upd H1 s1.heap.objs.size (.tup xs), I1.laid (t' := s1.toks) (fun b u e => Heap.get?_push_of_some _ e) (Nat.le_refl _) ?_, rfl, q _ hf⟩
  exact ⟨z, us, r, ⟨_, Heap.get?_push_size _ rfl, rfl, _, rfl⟩⟩
theorem pe_lst (h : PA X es t) : PE X (.List es pos) (tLst t) := by
  intro pins s σ H Q I hq
  refine wpAny_List_spliced (thn (h pos pins s σ H _ I hq) fun us s1 ⟨xs, H1, I1, r, z, q⟩ => ⟨by rw [← r.length]; exact z, ?_⟩)
  have hf : H1 s1.heap.objs.size = none := I1.hok.fresh (Nat.le_refl _)
  refine ⟨.ref s1.heap.objs.size, upd H1 s1.heap.objs.size (.lst xs), I1.laid (t' := s1.toks) (fun b u e => Heap.get?_push_of_some _ e) (Nat.le_refl _) ?_, rfl, q _ hf⟩
  exact ⟨z, us, 0, r, Heap.get?_push_size _ rfl⟩
end

noncomputable abbrev Sp := List V → Hp → VK → XK → Prop
noncomputable abbrev CXT := List Env → Hp → Shared → XK → Value → Shared → Prop

structure Env0 (P : Program) (w : World) (K : PySem.W.Frag) (mg : Str → Option Value) (base : Heap) (A : Around) (outer : List Env) (s : Shared) (H : Hp) : Prop where
  frames : A.frames = some outer
  mod : Mod K mg base
  bs : ∀ b o, base.get? b = some o → s.heap.get? b = some o ∧ H b = none
  bsz : base.objs.size ≤ s.heap.objs.size
  funs : s.heap.FunFrames base outer
  frf : ∀ b ∈ frs outer, H b = none
  hok : HOk P w H s.heap
  bare : AllBare s.gens
noncomputable def CE (outer : List Env) (P : Program) (w : World) (H : Hp) (s : Shared) (Q : VK) (u : Value) (s' : Shared) : Prop :=
  ∃ v H', s'.os = s.os ∧ AllBare s'.gens ∧ Un (frs outer) [] H H' s.heap s'.heap ∧ HOk P w H' s'.heap ∧ RelV v u ∧ Q v H'
noncomputable def CR (CX : CXT) (outer : List Env) (P : Program) (w : World) (H : Hp) (s : Shared) (Q : VK) (E : XK) (r : Result) (s' : Shared) : Prop :=
  match r with
  | .ok (.ret u) => CE outer P w H s Q u s'
  | .ok _ => False
  | .error e => CX outer H s E e s'
structure FnOk (P : Program) (w : World) (K : PySem.W.Frag) (mg : Str → Option Value) (base : Heap) (CX : CXT) (k : Nat) (f : Addr) (fd : FuncData) (ps : List Str) (sp : Sp) : Prop where
  len : ∀ vs H Q E, sp vs H Q E → vs.length = ps.length
  run : ∀ (A : Around) (outer : List Env) (s : Shared) (H : Hp) (args : Args) (us : List Value) (vs : List V) (Q : VK) (E : XK), Room k A → Env0 P w K mg base A outer s H → BindsTo s fd args (ps.zip us) → Vals vs us → sp vs H Q E →
    codeAny (model P w) A (.call (.ref f) args) (CR CX outer P w H s Q E) s
section
variable {X : Cx} {pins : List (Addr × Obj)} {σ : St} {H : Hp} {s s' : Shared}
theorem Inv.env0 (I : Inv X pins σ H s) : Env0 X.prog X.w X.K X.mg X.base X.A X.stack s H :=
  ⟨I.ok.frames, I.ok.mod, I.bs, Nat.le_trans I.ok.bsz I.sz, I.stack, I.stkFree, I.hok, I.bare⟩
theorem Inv.after {Q : VK} {u : Value} (I : Inv X pins σ H s) (h : CE X.stack X.prog X.w H s Q u s') : EP X pins σ Q u s' := by
  obtain ⟨v, H', os, bare, un, hok, r, q⟩ := h
  obtain ⟨hh, g, d, t, os'⟩ := s'
  obtain rfl : os' = s.os := os
  exact ⟨v, H', I.call (h' := hh) (g' := g) (d' := d) (t' := t) (ch := []) un hok bare (fun b z => absurd z (by simp)), r, q⟩
end

noncomputable def tCall (sp : Sp) (dvs : List V) (E : XK) (t : TA) : TE := fun σ H Q => t σ H fun vs H1 => sp (vs ++ dvs) H1 Q E
noncomputable def Binds (K : PySem.W.Frag) (fd : FuncData) (ps : List Str) (ds : List Value) : Prop :=
  ∀ (s : Shared) (us : List Value), K.In s.heap → (us ++ ds).length = ps.length → BindsTo s fd ⟨us, []⟩ (ps.zip (us ++ ds))
theorem Binds.all {K : PySem.W.Frag} {fd : FuncData} {ps : List Str} (h : ∀ us : List Value, us.length = ps.length → bindArgs fd ⟨us, []⟩ = pure (ps.zip us)) : Binds K fd ps [] := fun s us _ hl => by
  rw [List.append_nil] at hl ⊢
  exact .of_eq (h us hl)

noncomputable def Passes (CX : CXT) (X : Cx) (E : XK) : Prop := ∀ (pins : List (Addr × Obj)) (σ : St) (H : Hp) (s : Shared) (e : Value) (s' : Shared), Inv X pins σ H s → CX X.stack H s E e s' → X.xe e s'

section
variable {X : Cx} {CX : CXT} {k : Nat} {f C : Addr} {fd : FuncData} {ps : List Str} {sp : Sp} {dvs : List V} {ds : List Value} {E : XK} {x m : Str} {p pos apos : Pos} {e o : Expr} {es : List Expr} {ta : TE} {t : TA}

theorem run_fn {pins : List (Addr × Obj)} {σ : St} {H : Hp} {s : Shared} {Q : VK} {us : List Value} {vs : List V} (F : FnOk X.prog X.w X.K X.mg X.base CX k f fd ps sp) (hr : Room k X.A) (hb : Binds X.K fd ps ds) (hd : Vals dvs ds) (hx : Passes CX X E)
    (I : Inv X pins σ H s) (r : Vals vs us) (h : sp (vs ++ dvs) H Q E) : wpAny (model X.prog X.w) X.A (call (.ref f) us) (EP X pins σ Q) X.xe s := by
  have r2 : Vals (vs ++ dvs) (us ++ ds) := r.append hd
  have hl : (us ++ ds).length = ps.length := by rw [← r2.length]; exact F.len _ _ _ _ h
  refine wpAny_call (codeAny_mono (F.run X.A X.stack s H ⟨us, []⟩ (us ++ ds) (vs ++ dvs) Q E hr I.env0 (hb s us I.kIn hl) r2 h) fun r s' hq => ?_)
  cases r with
  | error e => exact hx pins σ H s e s' I hq
  | ok fl =>
    cases fl with
    | ret u => exact I.after hq
    | next => exact False.elim hq
    | brk => exact False.elim hq
    | cont => exact False.elim hq

theorem pe_call (F : FnOk X.prog X.w X.K X.mg X.base CX k f fd ps sp) (hr : Room k X.A) (hg : Gl X x) (hm : X.mg x = some (.ref f)) (hk : PySem.W.keepIn X.K (.ref f) = true) (hb : Binds X.K fd ps ds) (hd : Vals dvs ds) (hx : Passes CX X E)
    (ha : PA X (e :: es) t) (hdb : (x == ("__debug__" : Str)) = false := by decide) (he : starEach (e :: es) X.env = (false, eval e X.env) :: starEach es X.env := by rfl) (hpl : (backTo pos (starEach es X.env)).any (·.1) = false := by rfl) :
    PE X (.Call (.Name x p) (e :: es) [] pos) (tCall sp dvs E t) := by
  intro pins s σ H Q I h
  refine wpAny_Call_Name_kw (ld_glob I hg hm ?_ hdb)
  refine PySem.W.callWith_K (h₀ := X.base) I.ok.mod.kin hk (thn (ha pos pins s σ H _ I h) fun us s1 ⟨vs, H1, I1, r, q⟩ => ⟨I1.kIn, ?_⟩) he hpl
  exact run_fn F hr hb hd hx I1 r q
end

section
variable {X : Cx} {CX : CXT} {k : Nat} {f C : Addr} {fd : FuncData} {ps ks : List Str} {sp : Sp} {E : XK} {x m : Str} {p pos apos kpos : Pos} {e o : Expr} {es : List Expr} {kws : List Keyword} {te ta : TE} {t tk : TA} {nm : Option Str}
variable {g : List Value → List Value → List Value} {gV : List V → List V → List V}
end

structure FnScope (N P : List Str) (sc : Scope) : Prop where
  kind : sc.kind = .function
  co : sc.isCoroutine = false
  gen : sc.isGenerator = false
  nd : N.Nodup
  pre : N.take P.length = P
  par : ∀ x ∈ P, sc.names.lookup x = some .local ∨ sc.names.lookup x = some .cell
  nofree : ∀ y ∈ sc.names, y.2 ≠ .free

theorem bindL_out {kindOf : Str → Option NameKind} {x : Str} : ∀ {binds : List (Str × Value)} {m : Str → Option Value}, (∀ v, (x, v) ∉ binds) → bindL kindOf binds m x = m x
  | [], _, _ => rfl
  | (n, v) :: r, m, h => by
    unfold bindL
    rw [bindL_out fun w hw => h w (List.mem_cons_of_mem _ hw)]
    split
    · have : x ≠ n := by rintro rfl; exact h v List.mem_cons_self
      simp [this]
    · rfl
theorem bindC_out {kindOf : Str → Option NameKind} {x : Str} : ∀ {binds : List (Str × Value)} {m : Str → Option Value}, (∀ v, (x, v) ∉ binds) → bindC kindOf binds m x = m x
  | [], _, _ => rfl
  | (n, v) :: r, m, h => by
    unfold bindC
    rw [bindC_out fun w hw => h w (List.mem_cons_of_mem _ hw)]
    split
    · rfl
    · have : x ≠ n := by rintro rfl; exact h v List.mem_cons_self
      simp [this]
theorem bindL_get {kindOf : Str → Option NameKind} {x : Str} {v : Value} : ∀ {P : List Str} {vs : List Value} {i : Nat} {m : Str → Option Value}, P.Nodup → P[i]? = some x → vs[i]? = some v → kindOf x = some .local →
    bindL kindOf (P.zip vs) m x = some v
  | [], _, _, _, _, h, _, _ => by simp at h
  | _ :: _, [], _, _, _, _, h, _ => by simp at h
  | p :: P, w :: vs, 0, m, nd, h1, h2, hk => by
    simp at h1 h2; subst h1; subst h2
    show bindL kindOf ((p, w) :: P.zip vs) m p = _
    unfold bindL
    rw [bindL_out fun v hv => (List.nodup_cons.mp nd).1 (List.of_mem_zip hv).1, if_pos hk]
    simp
  | p :: P, w :: vs, i + 1, m, nd, h1, h2, hk => by
    show bindL kindOf ((p, w) :: P.zip vs) m x = _
    unfold bindL
    exact bindL_get (i := i) (List.nodup_cons.mp nd).2 (by simpa using h1) (by simpa using h2) hk
theorem bindC_get {kindOf : Str → Option NameKind} {x : Str} {v : Value} : ∀ {P : List Str} {vs : List Value} {i : Nat} {m : Str → Option Value}, P.Nodup → P[i]? = some x → vs[i]? = some v → kindOf x ≠ some .local →
    bindC kindOf (P.zip vs) m x = some v
  | [], _, _, _, _, h, _, _ => by simp at h
  | _ :: _, [], _, _, _, _, h, _ => by simp at h
  | p :: P, w :: vs, 0, m, nd, h1, h2, hk => by
    simp at h1 h2; subst h1; subst h2
    show bindC kindOf ((p, w) :: P.zip vs) m p = _
    unfold bindC
    rw [bindC_out fun v hv => (List.nodup_cons.mp nd).1 (List.of_mem_zip hv).1, if_neg hk]
    simp
  | p :: P, w :: vs, i + 1, m, nd, h1, h2, hk => by
    show bindC kindOf ((p, w) :: P.zip vs) m x = _
    unfold bindC
    exact bindC_get (i := i) (List.nodup_cons.mp nd).2 (by simpa using h1) (by simpa using h2) hk

noncomputable def start (N : List Str) (vs : List V) : St := vs.map some ++ List.replicate (N.length - vs.length) none

noncomputable def cxOf (CX : CXT) (P : Program) (w : World) (K : PySem.W.Frag) (mg : Str → Option Value) (base : Heap) (N : List Str) (qual : Str) (scope : Scope) (f : Addr) (cd : Value) (A : Around) (outer : List Env) (s : Shared) (H : Hp) (E : XK) : Cx where
  prog := P
  w := w
  K := K
  mg := mg
  base := base
  A := A.deeper (envOfC qual scope s.heap.objs.size f cd)
  N := N
  s₀ := s
  H₀ := H
  env := envOfC qual scope s.heap.objs.size f cd
  outer := outer
  stack := envOfC qual scope s.heap.objs.size f cd :: outer
  ex := []
  calm := true
  fn := fun _ => true
  pn := []
  xe := fun e s' => wpAny (model P w) (A.deeper (envOfC qual scope s.heap.objs.size f cd)) (leaving (envOfC qual scope s.heap.objs.size f cd) e) (fun _ s'' => CX outer H s E e s'') (fun e' s'' => CX outer H s E e' s'') s'

theorem cell_has {sc : Scope} {n : Nat} {x : Str} (h : sc.names.lookup x = some .cell) : ∃ c, (cellsFrom n sc.names []).lookup x = some c := by
  have q := PySem.W.cellsFrom_some sc.names n [] (.inl h)
  exact Option.isSome_iff_exists.mp q

theorem inv_start {CX : CXT} {P : Program} {w : World} {K : PySem.W.Frag} {mg : Str → Option Value} {base : Heap} {N ps : List Str} {qual : Str} {scope : Scope} {f : Addr} {cd : Value} {A : Around} {outer : List Env} {s s1 : Shared} {H : Hp} {E : XK} {us : List Value} {vs : List V}
    (S : FnScope N ps scope) (hd : A.handled = none) (e0 : Env0 P w K mg base A outer s H) (hl : vs.length = ps.length) (r : Vals vs us)
    (x : InCallC s s.heap.objs.size (bindL (envOfC qual scope s.heap.objs.size f cd).kindOf (ps.zip us) fun _ => none) (cellsFrom (s.heap.objs.size + 1) scope.names []) (bindC (envOfC qual scope s.heap.objs.size f cd).kindOf (ps.zip us) fun _ => none) s1) :
    Inv (cxOf CX P w K mg base N qual scope f cd A outer s H E) [] (start N vs) H s1 := by
  have hpl : ps.length ≤ N.length := by have := congrArg List.length S.pre; rw [List.length_take] at this; omega
  obtain ⟨h1, tk, rfl, hk⟩ := x.done
  have noA : ∀ b : Addr, b ∉ (cxOf CX P w K mg base N qual scope f cd A outer s H E).ex := fun b z => absurd (show b ∈ ([] : List Addr) from z) (by simp)
  refine ⟨⟨e0.mod, S.kind, rfl, rfl, Nat.le_refl _, fun y z c h1 h2 => ?_, fun y hy => ?_, fun y c _ h => ?_, fun _ => hd, Around.frames_deeper e0.frames, .inr ⟨rfl, rfl⟩, fun b z => absurd z (noA b), e0.bs, e0.bsz, fun b _ _ => noA b, fun b z => absurd z (noA b), e0.funs, e0.frf⟩,
    rfl, e0.bare, Un.kept hk, ⟨_, x.toInCall.ns, fun i y v h1 h2 h3 => ?_⟩, fun y c h => ⟨_, x.cell y c h⟩, e0.hok.fresh (Nat.le_refl _), fun y c h => ?_, fun p hp => absurd (show p ∈ ([] : List (Addr × Obj)) from hp) (by simp), e0.hok.kept hk, ?_⟩
  · exact name_of_addr x.apart (PySem.mem_of_lookup h1) (PySem.mem_of_lookup h2)
  · have hy : scope.names.lookup y = some .cell ∨ scope.names.lookup y = some .free := hy
    rcases hy with hy | hy
    · exact cell_has hy
    · exact absurd rfl (S.nofree _ (PySem.mem_of_lookup hy))
  · exact Nat.le_of_lt (x.above y c (PySem.mem_of_lookup h))
  · have hi : i < vs.length := by
      unfold start at h2
      by_cases hi : i < vs.length
      · exact hi
      · rw [List.getElem?_append_right (by simpa using hi)] at h2
        rw [List.getElem?_replicate] at h2
        split at h2 <;> cases h2
    have ha : vs[i]? = some v := by
      unfold start at h2
      rw [List.getElem?_append_left (by simpa using hi), List.getElem?_map] at h2
      cases e : vs[i]? with
      | none => rw [e] at h2; cases h2
      | some a => rw [e] at h2; cases h2; rfl
    obtain ⟨u, hu, rv⟩ := r.get ha
    have hp : ps[i]? = some y := by
      rw [← S.pre, List.getElem?_take_of_lt (by omega)]; exact h1
    have ndP : ps.Nodup := by rw [← S.pre]; exact S.nd.sublist (List.take_sublist _ _)
    refine ⟨u, rv, ?_⟩
    rcases S.par y (List.mem_of_getElem? hp) with k | k
    · exact .inl ⟨k, bindL_get ndP hp hu k⟩
    · obtain ⟨c, e⟩ := cell_has (n := s.heap.objs.size + 1) k
      refine .inr ⟨.inl k, c, e, ?_⟩
      have q := x.cell y c e
      rw [bindC_get ndP hp hu (by show scope.names.lookup y ≠ _; rw [k]; decide)] at q
      exact q
  · exact e0.hok.fresh (Nat.le_of_lt (x.above y c (PySem.mem_of_lookup h)))
  · unfold start
    show _ = N.length
    rw [List.length_append, List.length_map, List.length_replicate]
    omega

theorem fn_of {CX : CXT} {P : Program} {w : World} {K : PySem.W.Frag} {mg : Str → Option Value} {base : Heap} {k : Nat} {f : Addr} {name qual : Str} {params : Arguments} {body : List Stmt} {scope : Scope} {dV kV doc pm cdv ct oc : Value} {an od : Option Addr}
    {osl : Array (Option Value)} {N ps : List Str} {sp : Sp} (lk : K.lookup f = some ⟨oc, od, .func (PySem.W.fnOf name qual params body scope dV kV doc pm an cdv ct), osl⟩) (hcd : PySem.W.codeIn K cdv qual = true) (S : FnScope N ps scope)
    (len : ∀ vs H Q E, sp vs H Q E → vs.length = ps.length)
    (hbody : ∀ (A : Around) (outer : List Env) (s : Shared) (H : Hp) (vs : List V) (Q : VK) (E : XK), Room k (A.deeper (envOfC qual scope s.heap.objs.size f cdv)) → sp vs H Q E →
      ∃ t, PSs (cxOf CX P w K mg base N qual scope f cdv A outer s H E) body t ∧ t { nx := fun _ H' => Q .non H', rt := Q } (start N vs) H) :
    FnOk P w K mg base CX (k + 1) f (PySem.W.fnOf name qual params body scope dV kV doc pm an cdv ct) ps sp := by
  refine ⟨len, fun A outer s H args us vs Q E hr e0 hb r hsp => ?_⟩
  have hl := len _ _ _ _ hsp
  have KX : K.In s.heap := e0.mod.kin.keeps fun b o e => (e0.bs b o e).1
  have lim : s.heap.NoLimit := e0.mod.nolimit.keeps fun b o e => (e0.bs b o e).1
  have hkind : ∀ y ∈ ps.zip us, scope.names.lookup y.1 = some .local ∨ (scope.names.lookup y.1 = some .cell ∧ ((cellsFrom (s.heap.objs.size + 1) scope.names []).lookup y.1).isSome = true) := fun ⟨n, v⟩ hy => by
    rcases S.par n (List.of_mem_zip hy).1 with q | q
    · exact .inl q
    · exact .inr ⟨q, PySem.W.cellsFrom_some _ _ _ (.inl q)⟩
  refine codeAny_call_function hr.depth (KX _ _ lk) rfl S.co S.gen rfl (PySem.W.codeRec_of KX hcd) (hb _ _ _ _ ?_)
  refine wpAny_newFunctionEnv_cells S.kind hkind fun env he s1 x => ?_
  subst he
  refine ⟨lim.keeps x.toInCall.keep, codeAny_func ?_⟩
  obtain ⟨t, ht, hq⟩ := hbody A outer s H vs Q E (hr.deeper _) hsp
  have I : Inv (cxOf CX P w K mg base N qual scope f cdv A outer s H E) [] (start N vs) H s1 := inv_start S hr.hd e0 hl r x
  refine wpAny_mono (ht [] s1 (start N vs) H _ I hq) (fun fl s' hs => ?_) fun e s' hs => hs
  have fin : ∀ {σ' : St} {H' : Hp} {v : V} {u : Value}, Inv (cxOf CX P w K mg base N qual scope f cdv A outer s H E) [] σ' H' s' → RelV v u → Q v H' → CE outer P w H s Q u s' :=
    fun {σ' H' v u} J rv q => ⟨v, H', J.os, J.bare, J.base, J.hok, rv, q⟩
  cases fl with
  | ret u =>
    obtain ⟨v, σ', H', J, rv, q⟩ := hs
    exact fin J rv q
  | next =>
    obtain ⟨σ', H', J, q⟩ := hs
    exact fin (v := V.non) (u := Value.none) J rfl q
  | brk =>
    obtain ⟨_, _, _, q⟩ := hs
    exact False.elim q
  | cont =>
    obtain ⟨_, _, _, q⟩ := hs
    exact False.elim q
end L2

namespace L2
open PySem PySem.Spec PyProof.Rows
section
variable {X : Cx} {x : Str} {p pos : Pos} {e : Expr} {es : List Expr} {t : TA} {id T : String} {r : List V → Hp → VK → Prop}

noncomputable def tCB (r : List V → Hp → VK → Prop) (t : TA) : TE := fun σ H Q => t σ H fun vs H1 => r vs H1 Q
theorem pe_callB (hc : CallR X (.builtin id) r) (hg : Gl X x) (hm : X.mg x = none) (hv : bootBuiltins x = some (.builtin id)) (ha : PA X (e :: es) t) (hn : x ≠ "__name__" := by decide) (hdb : (x == ("__debug__" : Str)) = false := by decide)
    (he : starEach (e :: es) X.env = (false, eval e X.env) :: starEach es X.env := by rfl) (hpl : (backTo pos (starEach es X.env)).any (·.1) = false := by rfl) : PE X (.Call (.Name x p) (e :: es) [] pos) (tCB r t) := by
  intro pins s σ H Q I h
  refine wpAny_Call_Name_kw (ld_blt I hg hm hv ?_ hn hdb)
  exact PyProof.Rows.callWith_builtin1 (thn (ha pos pins s σ H _ I h) fun us s1 ⟨vs, H1, I1, r1, q1⟩ => hc pins s1 σ H1 vs us Q I1 r1 q1) he hpl
theorem pe_callTy (hc : CallR X (.type T) r) (hg : Gl X x) (hm : X.mg x = none) (hv : bootBuiltins x = some (.type T)) (ha : PA X (e :: es) t) (hn : x ≠ "__name__" := by decide) (hdb : (x == ("__debug__" : Str)) = false := by decide)
    (he : starEach (e :: es) X.env = (false, eval e X.env) :: starEach es X.env := by rfl) (hpl : (backTo pos (starEach es X.env)).any (·.1) = false := by rfl) : PE X (.Call (.Name x p) (e :: es) [] pos) (tCB r t) := by
  intro pins s σ H Q I h
  refine wpAny_Call_Name_kw (ld_blt I hg hm hv ?_ hn hdb)
  exact PyProof.Rows.callWith_type1 (thn (ha pos pins s σ H _ I h) fun us s1 ⟨vs, H1, I1, r1, q1⟩ => hc pins s1 σ H1 vs us Q I1 r1 q1) he hpl
end
end L2

namespace HT
open PySem PyProof.Rows

section
open PySem.SeqAt
open PySem.AutoSeq1 (wpAny_loadPart')
open PySem.MeetsSeq PySem.MeetsSeq2 PySem.MeetsSeq3

end

section
variable {prog : Program} {w : World} {A : Around} {E : Value → Shared → Prop} {s : Shared}

noncomputable def sIx (n d : Nat) : Option Int → Nat
  | none => d
  | some v => if v < 0 then (v + (n : Int)).toNat else min v.toNat n
theorem sIx_none (n d : Nat) : sIx n d none = d := rfl
theorem sIx_nat (n d k : Nat) : sIx n d (some (k : Int)) = min k n := by
  show (if (k : Int) < 0 then ((k : Int) + (n : Int)).toNat else min (k : Int).toNat n) = min k n
  rw [if_neg (by omega), Int.toNat_natCast]
end
end HT

namespace L2
open PySem PySem.Spec PyProof.Rows

noncomputable abbrev TO := St → Hp → (Option Int → Hp → Prop) → Prop
noncomputable def PO (X : Cx) (e : Option Expr) (t : TO) : Prop :=
  ∀ (pins : List (Addr × Obj)) (s : Shared) (σ : St) (H : Hp) (Q : Option Int → Hp → Prop), Inv X pins σ H s → t σ H Q →
    wpAny (model X.prog X.w) X.A (evalPart e X.env) (fun u s' => ∃ o H', Inv X pins σ H' s' ∧ IsPart u o ∧ Q o H') X.xe s
noncomputable def tNoPart : TO := fun _ H Q => Q none H
noncomputable def tPart (t : TE) : TO := fun σ H Q => t σ H fun x H1 => ∃ i, x = .int i ∧ Q (some i) H1

section
variable {X : Cx} {e : Expr} {te : TE} {lo hi : Option Expr} {tl th : TO} {pos p2 : Pos}

theorem po_none : PO X none tNoPart := by
  intro pins s σ H Q I h
  rw [evalPart_none]
  exact wpAny_pure ⟨none, H, I, .none, h⟩
theorem po_some (h : PE X e te) : PO X (some e) (tPart te) := by
  intro pins s σ H Q I hw
  rw [evalPart_some]
  refine thn (h pins s σ H _ I hw) fun u s1 ⟨x, H1, I1, r1, q1⟩ => ?_
  obtain ⟨i, rfl, q⟩ := q1
  obtain ⟨t, rfl⟩ := r1
  exact ⟨some i, H1, I1, .int i t, q⟩

noncomputable def SlR (X : Cx) (r : V → Option Int → Option Int → Hp → VK → Prop) : Prop :=
  ∀ (pins : List (Addr × Obj)) (s : Shared) (σ : St) (H : Hp) (x : V) (v vl vu : Value) (lo hi : Option Int) (sl : Addr) (Q : VK), Inv X pins σ H s → RelV x v → s.heap.IsSliceOf sl vl vu .none → IsPart vl lo → IsPart vu hi → r x lo hi H Q →
    ∃ T id, typeLookup (.type T) "__getitem__" = pure (some (.builtin id)) ∧ s.TypeIs v T ∧ wpAny (model X.prog X.w) X.A (getItem v (.ref sl)) (EP X pins σ Q) X.xe s
noncomputable def tSl (r : V → Option Int → Option Int → Hp → VK → Prop) (te : TE) (tl th : TO) : TE := fun σ H Q => te σ H fun x H1 => tl σ H1 fun l H2 => th σ H2 fun u H3 => r x l u H3 Q
theorem pe_slice {r : V → Option Int → Option Int → Hp → VK → Prop} (hr : SlR X r) (he : PE X e te) (hl : PO X lo tl) (hu : PO X hi th) : PE X (.Subscript e (.Slice lo hi none p2) pos) (tSl r te tl th) := by
  intro pins s σ H Q I h
  refine Subscript_ (thn (he pins s σ H _ I h) fun v s1 ⟨x, H1, I1, r1, q1⟩ => ?_)
  refine wpAny_Slice (thn (hl pins s1 σ H1 _ I1 q1) fun vl s2 ⟨l, H2, I2, pl, q2⟩ => thn (hu pins s2 σ H2 _ I2 q2) fun vu s3 ⟨u, H3, I3, pu, q3⟩ => ?_)
  rw [evalPart_none]
  refine wpAny_pure ?_
  have I4 : Inv X pins σ H3 { s3 with heap := s3.heap.push { cls := .type "slice", data := .fields #[vl, vu, .none] } } := I3.kept (t' := s3.toks) fun b ob q => Heap.get?_push_of_some _ q
  obtain ⟨T, id, hT, ht, hg⟩ := hr pins { s3 with heap := s3.heap.push { cls := .type "slice", data := .fields #[vl, vu, .none] } } σ H3 x v vl vu l u s3.heap.objs.size Q I4 r1 (Heap.IsSliceOf.new ..) pl pu q3
  show wpAny (model X.prog X.w) X.A (subscriptTail e (.Slice lo hi none p2) v (.ref s3.heap.objs.size)) (EP X pins σ Q) X.xe { s3 with heap := s3.heap.push { cls := .type "slice", data := .fields #[vl, vu, .none] } }
  exact tail_any (ops := [.ref s3.heap.objs.size, v]) ht hT hg (by with_unfolding_all rfl)

noncomputable def cutV (xs : List V) (lo hi : Option Int) : List V := (xs.drop (HT.sIx xs.length 0 lo)).take (HT.sIx xs.length xs.length hi - HT.sIx xs.length 0 lo)
theorem cutV_length (xs : List V) (lo hi : Option Int) : (cutV xs lo hi).length ≤ xs.length := by
  unfold cutV
  rw [List.length_take, List.length_drop]
  omega
end
end L2

namespace L2
open PySem PySem.Spec PyProof.Rows

noncomputable def ixN (n : Nat) (i : Int) : Option Nat := if 0 ≤ i then (if i < n then some i.toNat else none) else if -(n : Int) ≤ i then some (i + n).toNat else none
noncomputable def atI {α : Type} (xs : List α) (i : Int) : Option α := (ixN xs.length i).bind fun j => xs[j]?
theorem ixN_seq {n : Nat} {i : Int} {j : Nat} (h : ixN n i = some j) : seqIndex? i n = some j ∧ j < n ∧ -(n : Int) ≤ i ∧ i < n := by
  unfold ixN at h
  by_cases h0 : 0 ≤ i
  · rw [if_pos h0] at h
    by_cases h1 : i < n
    · rw [if_pos h1] at h
      have e : i.toNat = j := Option.some.inj h
      exact ⟨by rw [seqIndex_of h0 h1, e], by omega, by omega, h1⟩
    · rw [if_neg h1] at h; cases h
  · rw [if_neg h0] at h
    by_cases h1 : -(n : Int) ≤ i
    · rw [if_pos h1] at h
      have e : (i + n).toNat = j := Option.some.inj h
      exact ⟨by rw [seqIndex_neg (by omega) h1, e], by omega, h1, by omega⟩
    · rw [if_neg h1] at h; cases h
theorem atI_get {α : Type} {xs : List α} {i : Int} {v : α} (h : atI xs i = some v) : ∃ j, seqIndex? i xs.length = some j ∧ xs[j]? = some v ∧ j < xs.length ∧ -(xs.length : Int) ≤ i ∧ i < xs.length := by
  unfold atI at h
  cases e : ixN xs.length i with
  | none => rw [e] at h; cases h
  | some j =>
    rw [e] at h
    obtain ⟨h1, h2, h3, h4⟩ := ixN_seq e
    exact ⟨j, h1, h, h2, h3, h4⟩
theorem atI_nat {α : Type} {xs : List α} {j : Nat} {v : α} (h : xs[j]? = some v) : atI xs (j : Int) = some v := by
  have hj : j < xs.length := (List.getElem?_eq_some_iff.mp h).1
  have e : ixN xs.length (j : Int) = some j := by
    unfold ixN
    rw [if_pos (by omega), if_pos (by omega)]; simp
  unfold atI; rw [e]; exact h
noncomputable def PlainIx (b : Expr) : Prop := ∀ o i, subscripted b false o i = operate [o, i] (getItem o i)
noncomputable def IxR (X : Cx) (r : R2) : Prop :=
  ∀ (value slice : Expr) (pins : List (Addr × Obj)) (s : Shared) (σ : St) (H : Hp) (x y : V) (v u : Value) (Q : VK), Inv X pins σ H s → RelV x v → RelV y u → r x y H Q →
    subscripted slice false v u = operate [v, u] (getItem v u) → wpAny (model X.prog X.w) X.A (subscriptTail value slice v u) (EP X pins σ Q) X.xe s
noncomputable def MtR (X : Cx) (id : String) (r : V → List V → Hp → VK → Prop) : Prop :=
  ∀ (pins : List (Addr × Obj)) (s : Shared) (σ : St) (H : Hp) (x : V) (xs : List V) (v : Value) (us : List Value) (Q : VK), Inv X pins σ H s → RelV x v → Vals xs us → r x xs H Q →
    wpAny (model X.prog X.w) X.A (call (.builtin id) (v :: us)) (EP X pins σ Q) X.xe s
section
variable {X : Cx} {a b : Expr} {ta tb : TE} {pos : Pos}
theorem pe_ix {r : R2} (hr : IxR X r) (ha : PE X a ta) (hb : PE X b tb) (hs : PlainIx b) : PE X (.Subscript a b pos) (tOp r ta tb) := by
  intro pins s σ H Q I h
  exact Subscript_ (binT ha hb I h fun v u s2 x y H2 I2 rx ry q => hr a b pins s2 σ H2 x y v u Q I2 rx ry q (hs _ _))

noncomputable def rIxL (K : PySem.W.Frag) : R2 := fun x y H Q => ∃ p xs i v, x = .ref p ∧ y = .int i ∧ SqL K H p xs ∧ atI xs i = some v ∧ Q v H
noncomputable def rIxT (K : PySem.W.Frag) : R2 := fun x y H Q => ∃ p xs i v, x = .ref p ∧ y = .int i ∧ SqT K H p xs ∧ atI xs i = some v ∧ Q v H
noncomputable def rIxS : R2 := fun x y H Q => ∃ z i c, x = .str z ∧ y = .int i ∧ z.length ≤ sizeLine ∧ atI z.cps.toList i = some c ∧ Q (.str ⟨#[c]⟩) H
theorem ix_list : IxR X (rIxL X.K) := by
  intro value slice pins s σ H x y v u Q I rx ry h hs
  obtain ⟨p, xs, i, z, rfl, rfl, hq, he, q⟩ := h
  cases rx
  obtain ⟨t, rfl⟩ := ry
  obtain ⟨its, r, pl, hz⟩ := I.list hq
  obtain ⟨j, h1, h2, h3, h4, h5⟩ := atI_get he
  obtain ⟨w, ew, rw'⟩ := r.get h2
  have hl := r.length
  have hn := line63
  have fin : EP X pins σ Q w s := ⟨z, H, I, rw', q⟩
  by_cases h0 : 0 ≤ i
  · have hj : i.toNat = j := by
      rw [seqIndex_of h0 h5] at h1
      exact Option.some.inj h1
    exact item_listR pl.isList h0 (by omega) (by rw [hj]; simpa using ew) fin hs
  · have hj : (i + (its.toArray.size : Int)).toNat = j := by
      rw [seqIndex_neg (by omega) h4] at h1
      rw [List.size_toArray, ← hl]
      exact Option.some.inj h1
    exact subscriptTail_builtinR (x := w) pl.isList.typeIs slot_list_getitem.lookup
      (wpAny_getItem_list_neg (Q := fun r s' => r = w ∧ EP X pins σ Q r s') pl.isList (by omega) (by rw [List.size_toArray] <;> omega) (by omega) (by rw [hj]; simpa using ew) ⟨rfl, fin⟩) hs
theorem ix_tup : IxR X (rIxT X.K) := by
  intro value slice pins s σ H x y v u Q I rx ry h hs
  obtain ⟨p, xs, i, z, rfl, rfl, hq, he, q⟩ := h
  cases rx
  obtain ⟨t, rfl⟩ := ry
  obtain ⟨its, r, pl, hz⟩ := I.tuple hq
  obtain ⟨j, h1, h2, h3, h4, h5⟩ := atI_get he
  obtain ⟨w, ew, rw'⟩ := r.get h2
  have hl := r.length
  have hn := line63
  have fin : EP X pins σ Q w s := ⟨z, H, I, rw', q⟩
  exact subscriptTail_builtinR (x := w) pl.typeIs slot_tuple_getitem.lookup
    (getItem_tuple (j := j) (Q := fun r s' => r = w ∧ EP X pins σ Q r s') pl (by omega) (by omega) (by rw [List.size_toArray, ← hl]; exact h1) (by simpa using ew) ⟨rfl, fin⟩) hs
theorem ix_str : IxR X rIxS := by
  intro value slice pins s σ H x y v u Q I rx ry h hs
  obtain ⟨z, i, c, rfl, rfl, hz, he, q⟩ := h
  obtain ⟨t, rfl⟩ := rx
  obtain ⟨t', rfl⟩ := ry
  obtain ⟨j, h1, h2, h3, h4, h5⟩ := atI_get he
  have hl : z.cps.toList.length = z.length := by simp [Str.length]
  rw [hl] at h1 h4 h5
  have hn := line63
  exact tail_any (typeIs_str s z t) slot_str_getitem.lookup (getItem_str (c := c) (by
    have e1 : decide (i < -(2 ^ 63 : Int)) = false := decide_eq_false (by omega)
    have e2 : decide (i ≥ 2 ^ 63) = false := decide_eq_false (by omega)
    rw [e1, e2, Bool.or_false]) (by rw [h1]; simpa using h2) ⟨.str ⟨#[c]⟩, H, I.tok _, ⟨_, rfl⟩, q⟩) hs
theorem mapSeq_set (its : List Value) (n j : Nat) (u : Value) : Obj.mapSeq (·.setIfInBounds j u) { cls := .type "list", data := .seq its.toArray n } = { cls := .type "list", data := .seq (its.set j u).toArray n } := by
  simp [Obj.mapSeq]
theorem Inv.lst {pins : List (Addr × Obj)} {σ : St} {H : Hp} {s : Shared} {p : Addr} {xs : List V} (I : Inv X pins σ H s) (h : H p = some (.lst xs)) :
    ∃ (its : List Value) (n : Nat), Vals xs its ∧ s.heap.get? p = some { cls := .type "list", data := .seq its.toArray n } ∧ xs.length ≤ sizeLine := by
  obtain ⟨z, its, n, r, e⟩ := I.hok p _ h
  exact ⟨its, n, r, e, z⟩
theorem Inv.lstUpd {pins : List (Addr × Obj)} {σ : St} {H : Hp} {s : Shared} {p : Addr} {xs ys : List V} {its its' : List Value} {n n' : Nat} {f : Obj → Obj} (I : Inv X pins σ H s) (h : H p = some (.lst xs))
    (ho : s.heap.get? p = some { cls := .type "list", data := .seq its.toArray n }) (hf : f { cls := .type "list", data := .seq its.toArray n } = { cls := .type "list", data := .seq its'.toArray n' }) (r : Vals ys its') (hz : ys.length ≤ sizeLine) (t : Nat) :
    Inv X pins σ (upd H p (.lst ys)) { s with heap := s.heap.update p f, toks := t } := by
  have e : (s.heap.update p f).get? p = some { cls := .type "list", data := .seq its'.toArray n' } := by
    rw [Heap.get?_update_self f ho (by rw [hf] <;> rfl), hf]
  refine I.write (x := p) (e := p) (by rw [h]; trivial) (.inl rfl) (fun b u hb q => (Heap.get?_update_other _ _ (Ne.symm hb)).trans q) ⟨_, e⟩ ?_
  exact ⟨hz, its', n', r, e⟩
noncomputable def rSetL : V → V → V → Hp → (Hp → Prop) → Prop := fun o i v H Q => ∃ p xs k j, o = .ref p ∧ i = .int k ∧ H p = some (.lst xs) ∧ ixN xs.length k = some j ∧ Q (upd H p (.lst (xs.set j v)))
theorem set_list : PSet X rSetL := by
  intro pins s σ H o i v ov iv u Q I ro ri rv h
  obtain ⟨p, xs, k, j, rfl, rfl, hp, hj, q⟩ := h
  cases ro
  obtain ⟨t, rfl⟩ := ri
  obtain ⟨its, n, r, ho, hz⟩ := I.lst hp
  obtain ⟨h1, h2, h3, h4⟩ := ixN_seq hj
  have hl := r.length
  have hn := line63
  have I' : Inv X pins σ (upd H p (.lst (xs.set j v))) { s with heap := s.heap.update p (Obj.mapSeq (·.setIfInBounds j u)) } :=
    I.lstUpd hp ho (mapSeq_set its n j u) (r.set rv j) (by rw [List.length_set]; exact hz) s.toks
  by_cases h0 : 0 ≤ k
  · have hk : k.toNat = j := by
      rw [seqIndex_of h0 h4] at h1
      exact Option.some.inj h1
    exact PySem.W.ki_setAt ho h0 (by omega) (by rw [List.size_toArray, ← hl]; exact h4) (by rw [hk]; exact ⟨_, I', q⟩)
  · have hk : (k + (its.toArray.size : Int)).toNat = j := by
      rw [seqIndex_neg (by omega) h3] at h1
      rw [List.size_toArray, ← hl]
      exact Option.some.inj h1
    exact PySem.W.ki_setBack ho (by omega) (by rw [List.size_toArray, ← hl]; exact h3) (by omega) (by rw [hk]; exact ⟨_, I', q⟩)

theorem slice_bounds (lo hi : Option Int) (n : Nat) : (sliceBounds lo hi none n).1 = ((HT.sIx n 0 lo : Nat) : Int) ∧ (sliceBounds lo hi none n).2.1 = ((HT.sIx n n hi : Nat) : Int) ∧ (sliceBounds lo hi none n).2.2 = 1 := by
  refine ⟨?_, ?_, rfl⟩
  · cases lo with
    | none => simp [sliceBounds, HT.sIx]
    | some i =>
      simp only [sliceBounds, HT.sIx, Option.getD_none, show (1 : Int) > 0 by decide, if_true]
      by_cases h : i < 0
      · simp only [h, if_true] <;> omega
      · simp only [h, if_false] <;> omega
  · cases hi with
    | none => simp [sliceBounds, HT.sIx]
    | some i =>
      simp only [sliceBounds, HT.sIx, Option.getD_none, show (1 : Int) > 0 by decide, if_true]
      by_cases h : i < 0
      · simp only [h, if_true] <;> omega
      · simp only [h, if_false] <;> omega
theorem slicePick_cut (its : List Value) (lo hi : Option Int) : slicePick its.toArray lo hi none = ((its.drop (HT.sIx its.length 0 lo)).take (HT.sIx its.length its.length hi - HT.sIx its.length 0 lo)).toArray := by
  obtain ⟨h1, h2, h3⟩ := slice_bounds lo hi its.toArray.size
  unfold slicePick
  rw [h1, h2, h3]
  simp only [sliceRange_one, pick_run, List.size_toArray] <;> rfl
noncomputable def rSlL (K : PySem.W.Frag) : V → Option Int → Option Int → Hp → VK → Prop := fun x lo hi H Q => ∃ a xs, x = .ref a ∧ SqL K H a xs ∧ ∀ p, H p = none → Q (.ref p) (upd H p (.lst (cutV xs lo hi)))
theorem sl_list : SlR X (rSlL X.K) := by
  intro pins s σ H x v vl vu lo hi sl Q I rx hs pl pu h
  obtain ⟨a, xs, rfl, hx, q⟩ := h
  cases rx
  obtain ⟨its, r, ht, hz⟩ := I.list hx
  have hlen := r.length
  refine ⟨"list", _, slot_list_getitem.lookup, ht.isList.typeIs, ?_⟩
  refine wpAny_getItem_list_slice ht.isList hs pl pu .none (by simp) ?_ (by rw [List.size_toArray] <;> omega)
  rw [slicePick_cut, ← hlen]
  refine ⟨.ref s.heap.objs.size, _, I.laid (t' := s.toks) (o := .lst (cutV xs lo hi)) (fun b ob q => Heap.get?_push_of_some _ q) (Nat.le_refl _) ?_, rfl, q _ (I.hok.fresh (Nat.le_refl _))⟩
  exact ⟨Nat.le_trans (cutV_length xs lo hi) hz, _, 0, (r.drop (HT.sIx xs.length 0 lo)).take (HT.sIx xs.length xs.length hi - HT.sIx xs.length 0 lo), Heap.get?_push_size _ rfl⟩

noncomputable def flatV : V → Bool
  | .non => true
  | .bl _ => true
  | .int _ => true
  | .str _ => true
  | _ => false
noncomputable def eqV : V → V → Bool
  | .non, .non => true
  | .bl a, .bl b => a == b
  | .bl a, .int b => (if a then 1 else 0) == b
  | .int a, .bl b => a == (if b then 1 else 0)
  | .int a, .int b => a == b
  | .str a, .str b => a == b
  | _, _ => false
theorem eqAt_V {A : Around} {s : Shared} {y x : V} {u v : Value} (ry : RelV y u) (rx : RelV x v) (fy : flatV y = true) (fx : flatV x = true) : SeqAt.EqAt A s u v (eqV y x) := by
  cases y with
  | non =>
    cases ry
    cases x with
    | non => cases rx; exact SeqAt.EqAt.same _
    | bl b => cases rx; exact SeqAt.EqAt.none_bool b
    | int b => obtain ⟨t, rfl⟩ := rx; exact SeqAt.EqAt.none_int b t
    | str b => obtain ⟨t, rfl⟩ := rx; exact SeqAt.EqAt.none_str b t
    | _ => exact absurd (show false = true from fx) Bool.false_ne_true
  | bl a =>
    cases ry
    cases x with
    | non => cases rx; exact SeqAt.EqAt.bool_none a
    | bl b => cases rx; exact SeqAt.EqAt.bool_bool a b
    | int b => obtain ⟨t, rfl⟩ := rx; exact SeqAt.EqAt.bool_int a b t
    | str b => obtain ⟨t, rfl⟩ := rx; exact SeqAt.EqAt.bool_str a b t
    | _ => exact absurd (show false = true from fx) Bool.false_ne_true
  | int a =>
    obtain ⟨t', rfl⟩ := ry
    cases x with
    | non => cases rx; exact SeqAt.EqAt.int_none a t'
    | bl b => cases rx; exact SeqAt.EqAt.int_bool a t' b
    | int b => obtain ⟨t, rfl⟩ := rx; exact SeqAt.EqAt.int_int a t' b t
    | str b => obtain ⟨t, rfl⟩ := rx; exact SeqAt.EqAt.int_str a t' b t
    | _ => exact absurd (show false = true from fx) Bool.false_ne_true
  | str a =>
    obtain ⟨t', rfl⟩ := ry
    cases x with
    | non => cases rx; exact SeqAt.EqAt.str_none a t'
    | bl b => cases rx; exact SeqAt.EqAt.str_bool a t' b
    | int b => obtain ⟨t, rfl⟩ := rx; exact SeqAt.EqAt.str_int a t' b t
    | str b => obtain ⟨t, rfl⟩ := rx; exact SeqAt.EqAt.str_str a t' b t
    | _ => exact absurd (show false = true from fx) Bool.false_ne_true
  | _ => exact absurd (show false = true from fy) Bool.false_ne_true
noncomputable def eqU (x : V) (u : Value) : Bool := match u with
  | .none => eqV .non x
  | .bool b => eqV (.bl b) x
  | .int i _ => eqV (.int i) x
  | .str z _ => eqV (.str z) x
  | _ => false
theorem eqU_of {x y : V} {u : Value} (r : RelV y u) (f : flatV y = true) : eqU x u = eqV y x := by
  cases y with
  | non => cases r; rfl
  | bl b => cases r; rfl
  | int i => obtain ⟨t, rfl⟩ := r; rfl
  | str z => obtain ⟨t, rfl⟩ := r; rfl
  | _ => exact absurd (show false = true from f) Bool.false_ne_true
theorem any_eqU {x : V} : ∀ {xs : List V} {us : List Value}, Vals xs us → xs.all flatV = true → us.any (eqU x) = xs.any fun y => eqV y x
  | _, _, .nil, _ => rfl
  | y :: xs, u :: us, .cons r t, f => by
    rw [List.all_cons, Bool.and_eq_true] at f
    rw [List.any_cons, List.any_cons, eqU_of r f.1, any_eqU t f.2]
theorem mem_eqAt {A : Around} {s : Shared} {x : V} {v : Value} (rx : RelV x v) (fx : flatV x = true) : ∀ {xs : List V} {us : List Value}, Vals xs us → xs.all flatV = true → ∀ u ∈ us, SeqAt.EqAt A s u v (eqU x u)
  | _, _, .nil, _ => fun u hu => by cases hu
  | y :: xs, u :: us, .cons r t, f => fun u' hu => by
    rw [List.all_cons, Bool.and_eq_true] at f
    rcases List.mem_cons.mp hu with rfl | hu
    · rw [eqU_of r f.1]; exact eqAt_V r rx f.1 fx
    · exact mem_eqAt rx fx t f.2 u' hu
noncomputable def inV (x : V) (xs : List V) : Bool := xs.any fun y => eqV y x
noncomputable def rIn (K : PySem.W.Frag) (neg : Bool) : R2 := fun x y H Q => ∃ p xs, y = .ref p ∧ (SqL K H p xs ∨ SqT K H p xs) ∧ flatV x = true ∧ xs.all flatV = true ∧ Q (.bl (if neg then !inV x xs else inV x xs)) H
theorem op_in_seq : OpR X (compareOp .In) (rIn X.K false) := by
  intro pins s σ H x y v u Q I rx ry h
  obtain ⟨p, xs, rfl, hq, fx, fs, q⟩ := h
  cases ry
  rcases hq with hq | hq
  · obtain ⟨its, r, pl, hz⟩ := I.list hq
    refine SeqAt.in_listAt (eqU x) pl.isList (fun w hw => mem_eqAt rx fx r fs w (by simpa using hw)) ⟨.bl _, H, I, rfl, ?_⟩
    rw [show its.toArray.any (eqU x) = its.any (eqU x) by simp, any_eqU r fs]
    exact q
  · obtain ⟨its, r, pl, hz⟩ := I.tuple hq
    refine SeqAt.in_tupleAt (eqU x) pl (fun w hw => mem_eqAt rx fx r fs w (by simpa using hw)) ⟨.bl _, H, I, rfl, ?_⟩
    rw [show its.toArray.any (eqU x) = its.any (eqU x) by simp, any_eqU r fs]
    exact q
theorem call_len_seq : CallR X (.builtin "len") (fun xs H Q => ∃ p ys, xs = [.ref p] ∧ (SqL X.K H p ys ∨ SqT X.K H p ys) ∧ Q (.int ys.length) H) := by
  intro pins s σ H xs us Q I r h
  obtain ⟨p, ys, rfl, hq, q⟩ := h
  obtain ⟨u, rfl, rx⟩ := vals1 r
  cases rx
  have hn := line63
  rcases hq with hq | hq
  · obtain ⟨its, r', pl, hz⟩ := I.list hq
    have hlen := r'.length
    exact Calls.call_len_list pl.isList (by simp only [List.size_toArray] <;> omega) ⟨.int ys.length, H, I.tok _, ⟨s.toks + 1, by rw [List.size_toArray, hlen]⟩, q⟩
  · obtain ⟨its, r', pl, hz⟩ := I.tuple hq
    have hlen := r'.length
    exact len_tuple pl (by simp only [List.size_toArray] <;> omega) ⟨.int ys.length, H, I.tok _, ⟨s.toks + 1, by rw [List.size_toArray, hlen]⟩, q⟩
theorem call_len_str : CallR X (.builtin "len") (fun xs H Q => ∃ z, xs = [.str z] ∧ z.length ≤ sizeLine ∧ Q (.int z.length) H) := by
  intro pins s σ H xs us Q I r h
  obtain ⟨z, rfl, hz, q⟩ := h
  obtain ⟨u, rfl, t, rfl⟩ := vals1 r
  have hn := line63
  exact len_str (by omega) ⟨.int z.length, H, I.tok _, ⟨_, rfl⟩, q⟩
theorem call_tuple_of : CallR X (.type "tuple") (fun xs H Q => ∃ p ys, xs = [.ref p] ∧ ((SqL X.K H p ys ∧ ∀ l, H l = none → Q (.ref l) (upd H l (.tup ys))) ∨ (SqT X.K H p ys ∧ Q (.ref p) H))) := by
  intro pins s σ H xs us Q I r h
  obtain ⟨p, ys, rfl, h⟩ := h
  obtain ⟨u, rfl, rx⟩ := vals1 r
  cases rx
  rcases h with ⟨hq, q⟩ | ⟨hq, q⟩
  · obtain ⟨its, r', pl, hz⟩ := I.list hq
    have hlen := r'.length
    refine call_tuple_list pl.isList (fun h' kp => ?_) (by simp only [List.size_toArray] <;> omega)
    have I1 : Inv X pins σ H { s with heap := h' } := I.kept (t' := s.toks) kp
    have I2 : Inv X pins σ (upd H h'.objs.size (.tup ys)) { s with heap := h'.push { cls := .type "tuple", data := .seq its.toArray } } :=
      I1.laid (t' := s.toks) (fun b o e => Heap.get?_push_of_some _ e) (Nat.le_refl _) (show ObjOk X.prog X.w _ _ _ (.tup ys) from ⟨hz, its, r', IsTup.new _ _⟩)
    exact ⟨.ref h'.objs.size, _, I2, rfl, q _ (I1.hok.fresh (Nat.le_refl _))⟩
  · obtain ⟨its, r', pl, hz⟩ := I.tuple hq
    exact call_tuple_same pl ⟨.ref p, H, I, rfl, q⟩

noncomputable def tyV (K : PySem.W.Frag) (T : String) (x : V) (H : Hp) : Prop := match x with
  | .str _ => T = "str"
  | .int _ => T = "int"
  | .ref p => (T = "list" ∧ ∃ xs, SqL K H p xs) ∨ (T = "tuple" ∧ ∃ o, K.lookup p = some o ∧ o.cls = .type "tuple" ∧ o.dict = none) ∨
      (T = "dict" ∧ ((∃ kvs, H p = some (.dK kvs)) ∨ ∃ kvs, H p = some (.dT kvs))) ∨ (T = "set" ∧ ∃ S n, H p = some (.set S n))
  | _ => False
theorem tyV_is {pins : List (Addr × Obj)} {σ : St} {H : Hp} {s : Shared} {T : String} {x : V} {v : Value} (I : Inv X pins σ H s) (r : RelV x v) (ty : tyV X.K T x H) :
    s.TypeIs v T ∧ ∀ a, v = .ref a → ∃ ob, s.heap.get? a = some ob ∧ ob.dict = none := by
  cases x with
  | str z =>
    obtain ⟨t, rfl⟩ := r
    cases (show T = "str" from ty)
    exact ⟨typeIs_str s z t, fun _ e => nomatch e⟩
  | int i =>
    obtain ⟨t, rfl⟩ := r
    cases (show T = "int" from ty)
    exact ⟨typeIs_int s i t, fun _ e => nomatch e⟩
  | ref p =>
    cases r
    rcases ty with ⟨rfl, xs, hq⟩ | ⟨rfl, o, hk, hc, hd⟩ | ⟨rfl, hk⟩ | ⟨rfl, S, n, hk⟩
    · obtain ⟨its, _, pl, _⟩ := I.list hq
      refine ⟨pl.isList.typeIs, fun a e => ?_⟩
      cases e
      obtain ⟨o, n, e, c, hd, _⟩ := pl
      exact ⟨o, e, hd⟩
    · refine ⟨⟨o, I.kIn p o hk, hc⟩, fun a e => ?_⟩
      cases e
      exact ⟨o, I.kIn _ o hk, hd⟩
    · have z : ∃ o, s.heap.get? p = some o ∧ o.ExactDict := by
        rcases hk with ⟨kvs, hk⟩ | ⟨kvs, hk⟩
        · obtain ⟨_, _, _, _, o, _, _, e, ex, _⟩ := I.hok p _ hk
          exact ⟨o, e, ex⟩
        · obtain ⟨_, _, _, _, o, _, _, e, ex, _⟩ := I.hok p _ hk
          exact ⟨o, e, ex⟩
      obtain ⟨o, e, ex⟩ := z
      refine ⟨⟨o, e, ex.1⟩, fun a e2 => ?_⟩
      cases e2
      exact ⟨o, e, ex.2.1⟩
    · obtain ⟨o, _, _, _, e, ex, _⟩ := I.hok p _ hk
      refine ⟨⟨o, e, ex.1⟩, fun a e2 => ?_⟩
      cases e2
      exact ⟨o, e, ex.2.1⟩
  | _ => exact False.elim ty
noncomputable def tBM (K : PySem.W.Frag) (T : String) (r : V → List V → Hp → VK → Prop) (to : TE) (t : TA) : TE := fun σ H Q => to σ H fun x H1 => tyV K T x H1 ∧ t σ H1 fun xs H2 => r x xs H2 Q
variable {o e : Expr} {es : List Expr} {to : TE} {t : TA} {name : Str} {apos cpos : Pos} {T id : String} {r : V → List V → Hp → VK → Prop}
theorem pe_bm (pa : PlainAttrs T) (slot : Slot T name id) (hty : typeOf (.builtin id) = pure (.type "method_descriptor")) (hm : MtR X id r) (ho : PE X o to) (ha : PA X (e :: es) t)
    (hbase : attributeBase o name X.env (eval o X.env) = eval o X.env := by rfl)
    (hfew : ((backTo cpos (starEach (e :: es) X.env)).all (fun x => !x.1) && (backToKw cpos (keywordEach [] X.env)).all (fun x => x.1.isSome)
      && decide ((e :: es).length + ([] : List Keyword).length + (if ([] : List Keyword).isEmpty then 0 else 1) < 30)) = true := by rfl)
    (hline : (apos.endLine == cpos.line) = true := by rfl) (hs : starEach (e :: es) X.env = (false, eval e X.env) :: starEach es X.env := by rfl) (hplain : (backTo cpos (starEach es X.env)).any (·.1) = false := by rfl) :
    PE X (.Call (.Attribute o name apos) (e :: es) [] cpos) (tBM X.K T r to t) := by
  intro pins s σ H Q I h
  refine wpAny_Call_method_late hbase hfew hline rfl (thn (ho pins s σ H _ I h) fun v s1 ⟨x, H1, I1, r1, ty, q1⟩ => ?_)
  obtain ⟨h1, h2⟩ := tyV_is I1 r1 ty
  refine ⟨T, id, pa, slot, hty, h1, h2, ?_⟩
  have hA := ha cpos pins s1 σ H1 _ I1 q1
  rw [hs] at hA ⊢
  refine Calls.callWith_builtin (by show (false || (backTo cpos (starEach es X.env)).any (·.1)) = false; rw [hplain] <;> rfl) (Calls.evalArgs_plain ?_)
  exact thn hA fun us s2 ⟨vs, H2, I2, r2, q2⟩ => hm pins s2 σ H2 x vs v us Q I2 r1 r2 q2
/- xs.append(e), list.index on a module's tuple .. are MtR facts of 06m -/
end
end L2

namespace L2
open PySem PySem.Spec PyProof.Rows

noncomputable def MtM (X : Cx) (id : String) (r : V → List V → Hp → VK → Prop) : Prop :=
  ∀ (pins : List (Addr × Obj)) (s : Shared) (σ : St) (H : Hp) (x : V) (xs : List V) (v : Value) (us : List Value) (Q : VK), Inv X pins σ H s → RelV x v → Vals xs us → r x xs H Q →
    wpAny (model X.prog X.w) X.A (call (.builtin id) (v :: us)) (EP X pins σ Q) X.xe s

theorem Vals.one : ∀ {x : V} {us : List Value}, Vals [x] us → ∃ u, us = [u] ∧ RelV x u
  | _, _, .cons r .nil => ⟨_, rfl, r⟩
theorem Vals.rep {xs : List V} {us : List Value} (h : Vals xs us) : ∀ k : Nat, Vals (List.replicate k xs).flatten (List.replicate k us).flatten
  | 0 => .nil
  | k + 1 => by
    rw [List.replicate_succ, List.replicate_succ, List.flatten_cons, List.flatten_cons]
    exact Vals.append h (Vals.rep h k)
theorem foldl_rep (its : List Value) : ∀ (k : Nat) (acc : List Value),
    List.foldl (fun x1 x2 => x1 ++ x2) acc.toArray (List.replicate k its.toArray) = (acc ++ (List.replicate k its).flatten).toArray
  | 0, acc => by simp
  | k + 1, acc => by
    have e : acc.toArray ++ its.toArray = (acc ++ its).toArray := by simp
    have e2 : (acc ++ its) ++ (List.replicate k its).flatten = acc ++ (List.replicate (k + 1) its).flatten := by
      rw [List.replicate_succ, List.flatten_cons, List.append_assoc]
    rw [← e2, ← foldl_rep its k (acc ++ its), ← e, List.replicate_succ, List.foldl_cons]

section
variable {X : Cx} {pins : List (Addr × Obj)} {σ : St} {H : Hp} {s : Shared} {l b : Addr} {xs ys zs : List V}

theorem Inv.lset {its its' : List Value} {n : Nat} {f : Array Value → Array Value} {t' : Nat} (I : Inv X pins σ H s) (hH : H l = some (.lst xs))
    (e : s.heap.get? l = some { cls := .type "list", data := .seq its.toArray n }) (hf : f its.toArray = its'.toArray) (hv : Vals ys its') (hz : ys.length ≤ sizeLine) :
    Inv X pins σ (upd H l (.lst ys)) { s with heap := s.heap.update l (Obj.mapSeq f), toks := t' } := by
  have q := PySem.IsL.update e f
  rw [hf] at q
  refine I.write (x := l) (e := l) (by rw [hH]; exact trivial) (.inl rfl) (fun b' u hb hu => (Heap.get?_update_other s.heap (Obj.mapSeq f) (Ne.symm hb)).trans hu) ⟨_, q⟩ ?_
  exact ⟨hz, its', _, hv, q⟩
theorem Inv.lnew {its : List Value} {t' : Nat} (I : Inv X pins σ H s) (hv : Vals ys its) (hz : ys.length ≤ sizeLine) :
    Inv X pins σ (upd H s.heap.objs.size (.lst ys)) { s with heap := s.heap.push { cls := .type "list", data := .seq its.toArray }, toks := t' } :=
  I.laid (fun _ _ q => Heap.get?_push_of_some _ q) (Nat.le_refl _) ⟨hz, its, 0, hv, Heap.get?_push_size _ rfl⟩
theorem Inv.fresh (I : Inv X pins σ H s) : H s.heap.objs.size = none := I.hok.fresh (Nat.le_refl _)
theorem Inv.lstM (I : Inv X pins σ H s) (hH : H l = some (.lst xs)) : xs.length ≤ sizeLine ∧ ∃ (its : List Value) (n : Nat), Vals xs its ∧ xs.length = its.length ∧ s.heap.get? l = some { cls := .type "list", data := .seq its.toArray n } := by
  obtain ⟨z, its, n, r, e⟩ := I.hok l _ hH
  exact ⟨z, its, n, r, r.length, e⟩

theorem notLongL {n : Nat} (h : n ≤ sizeLine) : Builtin.List.listTooLong n = false := by
  unfold Builtin.List.listTooLong
  exact decide_eq_false (by omega)
end

section
variable {X : Cx}

noncomputable def rAppend : V → List V → Hp → VK → Prop := fun x vs H Q => ∃ l xs y, x = .ref l ∧ vs = [y] ∧ H l = some (.lst xs) ∧ xs.length < sizeLine ∧ Q .non (upd H l (.lst (xs ++ [y])))
theorem mt_append : MtM X "list.append" rAppend := by
  intro pins s σ H x vs v us Q I rx rv h
  obtain ⟨l, xs, y, rfl, rfl, hH, hz, q⟩ := h
  cases rx
  obtain ⟨u, rfl, ru⟩ := rv.one
  obtain ⟨z, its, n, r, hl, e⟩ := I.lstM hH
  refine call_meets F.slot_list_append ⟨_, e, rfl⟩ F.entry_list_append (F.args_list_append_2 _ _) (PySem.list_append l its.toArray n u (by rw [List.size_toArray]; omega)) ⟨e, ?_⟩
  refine ⟨.non, _, I.lset (its' := its ++ [u]) hH e (by simp) (r.append (.cons ru .nil)) ?_, rfl, q⟩
  rw [List.length_append, List.length_singleton]
  omega

noncomputable def rExtend : V → List V → Hp → VK → Prop := fun x vs H Q => ∃ l b xs zs, x = .ref l ∧ vs = [.ref b] ∧ H l = some (.lst xs) ∧ H b = some (.lst zs) ∧ xs.length + zs.length ≤ sizeLine ∧ Q .non (upd H l (.lst (xs ++ zs)))
theorem mt_extend : MtM X "list.extend" rExtend := by
  intro pins s σ H x vs v us Q I rx rv h
  obtain ⟨l, b, xs, zs, rfl, rfl, hH, hB, hz, q⟩ := h
  cases rx
  obtain ⟨u, rfl, ru⟩ := rv.one
  cases ru
  obtain ⟨z, its, n, r, hl, e⟩ := I.lstM hH
  obtain ⟨z2, its2, n2, r2, hl2, e2⟩ := I.lstM hB
  have hsz : its.toArray.size + its2.toArray.size ≤ sizeLine := by rw [List.size_toArray, List.size_toArray]; omega
  have hlong : ¬ (!its.toArray.isEmpty && Builtin.List.listTooLong (its.toArray.size + its2.toArray.size)) = true := by
    rw [notLongL hsz, Bool.and_false]
    exact Bool.false_ne_true
  refine call_meets F.slot_list_extend ⟨_, e, rfl⟩ F.entry_list_extend (F.args_list_extend_2 _ _)
    (AutoSeq1.list_extend_list_list_0 l its.toArray n b its2.toArray n2 hlong (by rw [List.size_toArray]; omega) (by omega)) ⟨e, e2, ?_⟩
  refine ⟨.non, _, I.lset (its' := its ++ its2) hH e (by simp) (r.append r2) ?_, rfl, q⟩
  rw [List.length_append]
  omega

noncomputable def rCat : R2 := fun x y H Q => ∃ l b xs zs, x = .ref l ∧ y = .ref b ∧ H l = some (.lst xs) ∧ H b = some (.lst zs) ∧ xs.length + zs.length ≤ sizeLine ∧ ∀ p, H p = none → Q (.ref p) (upd H p (.lst (xs ++ zs)))
theorem op_cat : OpR X (binaryOp .Add) rCat := by
  intro pins s σ H x y v u Q I rx ry h
  obtain ⟨l, b, xs, zs, rfl, rfl, hH, hB, hz, q⟩ := h
  cases rx
  cases ry
  obtain ⟨z, its, n, r, hl, e⟩ := I.lstM hH
  obtain ⟨z2, its2, n2, r2, hl2, e2⟩ := I.lstM hB
  refine PySem.P.add_list e e2 ?_ (by rw [List.size_toArray, List.size_toArray]; omega)
  have ea : its.toArray ++ its2.toArray = (its ++ its2).toArray := by simp
  rw [ea]
  exact ⟨.ref _, _, I.lnew (t' := s.toks) (r.append r2) (by rw [List.length_append]; omega), rfl, q _ I.fresh⟩
noncomputable def rRep : R2 := fun x y H Q => ∃ l k xs, x = .ref l ∧ y = .int k ∧ H l = some (.lst xs) ∧ -(2 ^ 63) ≤ k ∧ k < 2 ^ 63 ∧ xs.length * k.toNat ≤ sizeLine ∧
  ∀ p, H p = none → Q (.ref p) (upd H p (.lst (List.replicate k.toNat xs).flatten))
theorem len_rep {α : Type} (xs : List α) (k : Nat) : (List.replicate k xs).flatten.length = k * xs.length := by
  induction k with
  | zero => simp
  | succ k ih => rw [List.replicate_succ, List.flatten_cons, List.length_append, ih, Nat.succ_mul, Nat.add_comm]
theorem op_rep : OpR X (binaryOp .Mult) rRep := by
  intro pins s σ H x y v u Q I rx ry h
  obtain ⟨l, k, xs, rfl, rfl, hH, h1, h2, hz, q⟩ := h
  cases rx
  obtain ⟨t, rfl⟩ := ry
  obtain ⟨z, its, n, r, hl, e⟩ := I.lstM hH
  have hlen : its.toArray.size * k.toNat ≤ sizeLine := by rw [List.size_toArray, ← hl]; exact hz
  have hcap : ¬ its.toArray.size * k.toNat > (2 ^ 63 - 1) / 8 := by
    have : (sizeLine : Nat) ≤ (2 ^ 63 - 1) / 8 := by decide
    omega
  have hfit : ¬ (!Builtin.List.listFitsIndex k) = true := by
    rw [fitsIndex_both h1 h2]
    exact Bool.false_ne_true
  have hlong : ¬ Builtin.List.listTooLong (its.toArray.size * k.toNat) = true := by
    rw [notLongL hlen]
    exact Bool.false_ne_true
  have hnew : List.foldl (fun x1 x2 => x1 ++ x2) #[] (List.replicate (if its.toArray.isEmpty = true then 0 else k.toNat) its.toArray) = (List.replicate k.toNat its).flatten.toArray := by
    have f0 : ∀ m : Nat, List.foldl (fun x1 x2 => x1 ++ x2) #[] (List.replicate m its.toArray) = (List.replicate m its).flatten.toArray := fun m => by
      have := foldl_rep its m []
      rw [List.nil_append] at this
      exact this
    rw [f0]
    cases its with
    | nil => simp
    | cons a r' => rw [if_neg (by simp)]
  refine wpAny_binaryOp_repeat_ref (T := "list") (U := "int") (by decide) ⟨_, e, rfl⟩ (fun s' => typeIs_int s' k t) noFill_list_mul F.fills_int_mul F.slot_int_rmul repeat_list F.slot_int_index.lookup
    (call_meets F.slot_int_rmul (typeIs_int s k t) F.entry_int_rmul (F.args_int_rmul_2 _ _) (int___rmul___int_list k t l its.toArray n)
      ⟨e, rfl, ⟨_, e, rfl⟩, call_meets F.slot_list_mul ⟨_, e, rfl⟩ F.entry_list_mul (F.args_list_mul_2 _ _) (AutoListH.list___mul___list_int_3 l its.toArray n k t hfit hcap hlong) ⟨e, ?_⟩⟩)
  rw [hnew]
  exact ⟨.ref _, _, I.lnew (t' := s.toks) (r.rep k.toNat) (by rw [len_rep, Nat.mul_comm]; exact hz), rfl, q _ I.fresh⟩

end

section
variable {prog : Program} {w : World} {A : Around} {E : Value → Shared → Prop} {s : Shared}
end

section
variable {X : Cx}
end
end L2

namespace Att
open PySem PySem.W PySem.Calls PyProof.Rows

theorem ints_of_wellAll {P : Params} {h : Heap} : ∀ (ns : List Int) (vs : List Value), WellAll P h vs (ns.map WData.int) → IntsAre vs ns := by
  intro ns
  induction ns with
  | nil =>
    intro vs w
    rw [List.map_nil] at w
    cases w
    exact .nil
  | cons n ns ih =>
    intro vs w
    rw [List.map_cons] at w
    cases w with
    | cons a b =>
      cases a
      exact .cons _ _ (ih _ b)

theorem script_of {l : OpenLaw} {n : Nat} (hn : l.most = some n) {P : Params} {h : Heap} {args : List WData} {vals : List Value}
    (hpre : l.row.toRowW.claim.pre args = true) (hwl : WellAll P h vals args) :
    ∃ a vs ns, vals = [Value.ref a] ∧ args = [WData.list (ns.map WData.int)] ∧ h.get? a = some { cls := .type "list", data := .seq vs.toArray } ∧ IntsAre vs ns ∧ ns.length ≤ n := by
  have hsh : WShape.hasAll [] args [.list .int] = true := (pre_splitW hpre).1
  have hc : l.pre.holds [] { args := args } = true := (pre_splitW hpre).2
  obtain ⟨d, r, rfl, h1, h2⟩ := hasAllW_cons hsh
  obtain rfl := hasAllW_nil h2
  obtain ⟨xs, rfl, h3⟩ := hasW_list h1
  obtain ⟨ns, rfl⟩ := items_int h3
  have hlen : ns.length ≤ n := by
    unfold OpenLaw.pre at hc
    have h4 : (WTm.not (.lt (.lit (.int (n : Int))) (.len (.arg 0)))).holds [] { args := [.list (ns.map .int)] } = true := by
      have h4 := (holds_andW hc).1
      rw [hn] at h4
      exact h4
    have h5 := condW_of h4 (w_not (w_lt w_lit (w_len_list (w_arg rfl))))
    rw [List.length_map] at h5
    refine Nat.le_of_not_lt fun q => ?_
    have q' : (n : Int) < ((ns.length : Nat) : Int) := by omega
    first
      | (rw [decide_eq_true q'] at h5; exact absurd h5 (by decide))
      | (simp at h5; omega)
  cases hwl with
  | cons w1 w2 =>
    cases w2
    cases w1 with
    | list ho hall => exact ⟨_, _, ns, rfl, rfl, ho, ints_of_wellAll ns _ hall, hlen⟩

theorem post_true (l : OpenLaw) (args : List WData) : l.row.toRowW.claim.post args (.bool true) args = true :=
  postW_of (r := l.row.toRowW) (X := (true == true))
    (show WShape.has [] (.bool true) .bool = true by first | rfl | decide | simp [WShape.has, WShape.arms, WShape.armsAll])
    (show (WTm.eq .res (.lit (.bool true))).value [] { args := args, res := some (.bool true), after := args } = some (.bool (true == true)) from w_eq_bool (w_res rfl) w_lit) rfl

theorem attach_call {l : OpenLaw} {n : Nat} {q : Program} {loose : List Str} {XP : (Str → Option Value) → Heap → Prop} {YP : World → Heap → Prop} {d : DefRec}
    (hn : l.most = some n) (hdf : d.params.defaults = [])
    (call : ∀ (w : World) (s₀ s₁ : Shared) (mg mb : Str → Option Value) (fa : Addr) (o : Obj) (pm cd doc : Value) (a : Addr) (vs : List Value) (ns : List Int),
      Ground q loose [] XP w s₀ mg mb s₁.heap → YP w s₁.heap →
      s₁.heap.get? fa = some o → o.data = .func (docDef d.name d.params d.body d.scope pm cd doc) → s₁.heap.CodeRec cd d.name → mg d.name = some (.ref fa) →
      s₁.heap.get? a = some { cls := .type "list", data := .seq vs.toArray } → IntsAre vs ns → ns.length ≤ n → s₁.gens = #[] →
      codeAny (model l.prog w) callerA (.call (.ref fa) ⟨[.ref a], []⟩) (fun r s' => r = .ok (.ret (.bool true)) ∧ OldK s₁.heap s'.heap ∧ s'.os = s₁.os ∧ AllBare s'.gens) s₁) :
    WalkO q loose XP YP l.row.toRowW d [] (fun f vs => PySem.call f vs) := by
  intro w s₀ s₁ mg mb G Y fa o pm cd doc dV kV ho hd hcd hD hmg hg args vals as hpre hlay hrd hwl hlo
  obtain rfl : dV = .none := Dflts.none hD hdf
  obtain rfl : kV = .none := Dflts.noKw hD
  obtain ⟨a, vs, ns, rfl, rfl, hobj, hints, hlen⟩ := script_of hn hpre hwl
  refine enter_call (codeAny_mono (call w s₀ s₁ mg mb fa o pm cd doc a vs ns G Y ho (fd_plain hd) hcd hmg hobj hints hlen hg) fun r s' hq => ?_)
  obtain ⟨rfl, h2, h3, h4⟩ := hq
  exact ⟨.inl ⟨.bool true, .bool true, [], rfl, fun _ => rfl, .bool true, post_true l _, fun _ => ⟨List.Pairwise.nil, fun _ hm => (nomatch hm)⟩⟩, h2, h3, h4⟩

section
variable {prog : Program} {w : World} {A : Around} {E : Value → Shared → Prop} {s : Shared} {K : Frag}

noncomputable def ledger (h : Heap) (L d : Addr) : List (Addr × Obj) := (List.range h.objs.size).filterMap fun a => if a = L ∨ a = d then none else (h.get? a).map fun o => (a, o)
end
end Att

namespace L2
open PySem PySem.Spec PyProof.Rows

theorem vals_ints {vs : List Value} {ns : List Int} (h : IntsAre vs ns) : Vals (ns.map V.int) vs := by
  induction h with
  | nil => exact .nil
  | cons n t _ ih => exact .cons ⟨t, rfl⟩ ih
noncomputable def Only (H : Hp) : Prop := ∀ b, H b = none ∨ ∃ o xs, H b = some (.frz o (.lst xs))

theorem law_call {P : Program} {w : World} {K : PySem.W.Frag} {mg mb : Str → Option Value} {CX : CXT} {k : Nat} {fa a : Addr} {fd : FuncData} {x : Str} {sp : Sp} {s₁ : Shared} {vs : List Value} {ns : List Int}
    (KX : K.In s₁.heap) (hns : s₁.heap.Ns mainGlobals mg) (hb : s₁.heap.Ns builtinsNs mb) (hbb : ∀ x : Str, x ≠ "__name__" → mb x = bootBuiltins x) (hlim : s₁.heap.NoLimit) (hg : s₁.gens = #[])
    (ha : s₁.heap.get? a = some { cls := .type "list", data := .seq vs.toArray }) (hi : IntsAre vs ns) (hl : ns.length ≤ sizeLine) (hr : Room k callerA)
    (F : ∀ base : Heap, K.In base → base.Ns mainGlobals mg → FnOk P w K mg base CX k fa fd [x] sp) (hbind : ∀ (s : Shared) (u : Value), BindsTo s fd ⟨[u], []⟩ [(x, u)])
    (hsp : ∀ H : Hp, Only H → SqL K H a (ns.map V.int) → sp [.ref a] H (fun v _ => v = .bl true) fun _ _ _ => False)
    (hCX : ∀ H e s', CX [] H s₁ (fun _ _ _ => False) e s' → False) :
    codeAny (model P w) callerA (.call (.ref fa) ⟨[.ref a], []⟩) (fun r s' => r = .ok (.ret (.bool true)) ∧ OldK s₁.heap s'.heap ∧ s'.os = s₁.os ∧ AllBare s'.gens) s₁ := by
  have rv := vals_ints hi
  have lenV := hi.length
  -- from an abstract heap in which nothing but the script may be tracked
  have core : ∀ H : Hp, Only H → SqL K H a (ns.map V.int) → HOk P w H s₁.heap → (∀ b, H b ≠ none → b = a) → (H a ≠ none → K.lookup a = none) →
      codeAny (model P w) callerA (.call (.ref fa) ⟨[.ref a], []⟩) (fun r s' => r = .ok (.ret (.bool true)) ∧ OldK s₁.heap s'.heap ∧ s'.os = s₁.os ∧ AllBare s'.gens) s₁ := by
    intro H hO hS hok hA hK
    have base_of : ∀ {b : Addr} {o : Obj}, s₁.heap.get? b = some o → H b = none → (hidT s₁.heap H).get? b = some o := fun e n => hidT_get e n
    have noA : ∀ {b : Addr} {o : Obj} {es : Array DictEntry} {ep : Nat}, s₁.heap.get? b = some o → o.data = .dict es ep → H b = none := fun {b o es ep} e d => by
      cases q : H b with
      | none => rfl
      | some u =>
        have e' : b = a := hA b (by rw [q]; simp)
        subst e'
        rw [ha] at e; cases e
        have d' : Data.seq vs.toArray _ = Data.dict es ep := d
        cases d'
    have nsK : ∀ {b : Addr} {m : Str → Option Value}, s₁.heap.Ns b m → (hidT s₁.heap H).Ns b m := fun {b m} ⟨o, es, ep, e, d, r⟩ => ⟨o, es, ep, base_of e (noA e d), d, r⟩
    have hKb : K.In (hidT s₁.heap H) := fun b o e => base_of (KX b o e) (by
      cases q : H b with
      | none => rfl
      | some u =>
        have e' : b = a := hA b (by rw [q]; simp)
        subst e'
        rw [hK (by rw [q]; simp)] at e; cases e)
    have hM : Mod K mg (hidT s₁.heap H) := ⟨hKb, nsK hns, ⟨mb, nsK hb, hbb⟩, let ⟨mc, h1, h2⟩ := hlim; ⟨mc, nsK h1, h2⟩⟩
    have e0 : Env0 P w K mg (hidT s₁.heap H) callerA [] s₁ H := ⟨rfl, hM, fun b o e => of_hidT e, Nat.le_of_eq (hidT_size _ _), trivial, fun b hb => absurd (show b ∈ ([] : List Addr) from hb) (by simp), hok, .of_eq hg⟩
    refine codeAny_mono ((F _ hKb (nsK hns)).run callerA [] s₁ H ⟨[.ref a], []⟩ [.ref a] [.ref a] _ _ hr e0 (hbind s₁ (.ref a)) (.cons rfl .nil) (hsp H hO hS)) fun r s' h => ?_
    cases r with
    | error e => exact (hCX H e s' h).elim
    | ok fl =>
      cases fl with
      | next => exact False.elim h
      | brk => exact False.elim h
      | cont => exact False.elim h
      | ret u =>
        obtain ⟨v, H', os, bare, un, hok', r', q⟩ := h
        have q' : v = .bl true := q
        subst q'
        obtain rfl : u = Value.bool true := r'
        refine ⟨rfl, OldK.of_keep fun b o e => ?_, os, bare⟩
        cases q : H b with
        | none => exact un.keep b o e q (by intro z; exact absurd (show b ∈ ([] : List Addr) from z) (by simp)) (by simp)
        | some u =>
          rcases hO b with z | ⟨ob, xs, z⟩
          · rw [q] at z; cases z
          · have z2 := un.frzs b ob _ z
            obtain ⟨e1, _⟩ := hok b _ z
            obtain ⟨e2, _⟩ := hok' b _ z2
            rw [e] at e1; cases e1
            exact e2
  cases hk : K.lookup a with
  | some o =>
    -- the script is one of the module's own objects
    have e := KX a o hk
    rw [ha] at e
    cases e
    refine core (fun _ => none) (fun _ => .inl rfl) (.inr ⟨_, vs.toArray, _, hk, rfl, rfl, rfl, by rw [List.size_toArray, lenV]; exact hl, by simpa using rv⟩) (fun b u z => by have z' : (none : Option HO) = some u := z; cases z') (fun b z => absurd rfl z) fun z => absurd rfl z
  | none =>
    refine core (fun b => if b = a then some (.frz { cls := .type "list", data := .seq vs.toArray } (.lst (ns.map V.int))) else none) (fun b => ?_) (.inl (.inr ⟨{ cls := .type "list", data := .seq vs.toArray }, if_pos rfl⟩)) (fun b u z => ?_) (fun b z => ?_) fun _ => hk
    · by_cases hb : b = a
      · exact .inr ⟨_, _, if_pos hb⟩
      · exact .inl (if_neg hb)
    · by_cases hb : b = a
      · have z' := (if_pos hb).symm.trans z
        cases z'
        subst hb
        exact ⟨ha, by rw [List.length_map]; exact hl, vs, _, rv, ha⟩
      · have z' := (if_neg hb).symm.trans z
        cases z'
    · by_cases hb : b = a
      · exact hb
      · exact absurd (if_neg hb) z
end L2

namespace L2
open PySem PySem.Spec PyProof.Rows

noncomputable abbrev KOf {K : PySem.W.Frag} {h : Heap} (_ : K.In h) : PySem.W.Frag := K

theorem walk_of {l : PySem.W.OpenLaw} {n k : Nat} {q : Program} {loose : List Str} {XP : (Str → Option Value) → Heap → Prop} {YP : World → Heap → Prop} {d : DefRec} {K : Params → PySem.W.Frag} {CX : World → CXT} {sp : World → Sp} {x : Str}
    (hn : l.most = some n) (hn2 : n ≤ sizeLine) (hdf : d.params.defaults = []) (hr : Room k callerA)
    (hY : ∀ (w : World) (h : Heap), YP w h → (K w.params).In h)
    (F : ∀ (w : World) (mg : Str → Option Value) (fa : Addr) (h : Heap), (K w.params).In h → h.Ns mainGlobals mg → mg d.name = some (.ref fa) →
      ∃ fd : FuncData, (∀ (s : Shared) (u : Value), BindsTo s fd ⟨[u], []⟩ [(x, u)]) ∧
        ∀ base : Heap, (K w.params).In base → base.Ns mainGlobals mg → FnOk l.prog w (K w.params) mg base (CX w) k fa fd [x] (sp w))
    (hsp : ∀ (w : World) (H : Hp) (a : Addr) (ns : List Int), ns.length ≤ n → Only H → SqL (K w.params) H a (ns.map V.int) → sp w [.ref a] H (fun v _ => v = .bl true) fun _ _ _ => False)
    (hCX : ∀ (w : World) (H : Hp) (s : Shared) (e : Value) (s' : Shared), CX w [] H s (fun _ _ _ => False) e s' → False) :
    PySem.W.WalkO q loose XP YP l.row.toRowW d [] (fun f vs => PySem.call f vs) := by
  refine Att.attach_call hn hdf fun w s₀ s₁ mg mb fa o pm cd doc a vs ns G Y ho hd hcd hmg hobj hints hlen hg => ?_
  have KX := hY w _ Y
  obtain ⟨fd, hb, hF⟩ := F w mg fa _ KX G.T.g hmg
  exact law_call KX G.T.g G.T.b G.T.builtins G.T.nolimit hg hobj hints (Nat.le_trans hlen hn2) hr hF hb (fun H hO hS => hsp w H a ns hlen hO hS) fun H e s' => hCX w H s₁ e s'
end L2

/- THE LAST THEOREM (shape; LID, My.* are yours):
   My.Adr: a structure of the addresses that your layer names (classes, functions); My.Txt K t: a structure (Prop) of the equations over K;
   My.txt_mk : {K} {implicit addresses ..} (e1 : nsIn K mainGlobals "law" = some (some (.ref f))) (e2 : K.lookup f = some ⟨oc, od, .func (fnOf "law" "law" params body scope dV kV doc pm an cdv ct), sl⟩) (e3 : codeIn K cdv "law" = true) .. : ∃ t, My.Txt K t

set_option maxRecDepth 100000 in
set_option maxHeartbeats 0 in
theorem PySem.Challenge.cw_LID_holds : PySem.Challenge.rw_LID.Holds := by
  w_on; o_law; k_head; (case hw => w_witness2)
  k_fill
  refine L2.walk_of (l := PySem.Challenge.rw_LID) (n := 63) (k := 40) (x := "script") (CX := fun w => ..) (sp := fun _ => My.sp_law) rfl (by decide) rfl ⟨rfl, by decide, by decide⟩ (fun w h Y => PySem.W.kIn_of Y) ?F ?S ?C
  case F =>
    intro w mg fa h KX G hmg
    have T : ∃ t, My.Txt (L2.KOf KX) t := by
      dsimp only [L2.KOf]                          -- K must stand as «<heap const> w.params» for k_is
      refine' My.txt_mk ?e1 ?e2 ?e3 ..
      (case e1 => PySem.W.k_is)                    -- in the order: a name -> its address -> its object -> its parts
      (case e2 => PySem.W.k_is)
      ..
    obtain ⟨t, T⟩ := T
    have e0 := hmg.symm.trans (PySem.W.mg_of KX G T.law)
    cases e0                                       -- fa is the law's own address
    exact ⟨_, fun s u => .of_eq rfl, fun base kb nb => My.law_fn T kb nb⟩     -- if «.of_eq rfl» comes too early: refine' ⟨_, ?b, fun base kb nb => My.law_fn T kb nb⟩; exact fun s u => .of_eq rfl
  case S => exact fun w H a ns hl hO hS => ..
  case C => exact ..
(the tactic k_is has no namespace: write k_is) -/

namespace L2
open PySem PySem.Spec PyProof.Rows

noncomputable def defArgs (s : Stmt) : Arguments := match s with
  | .FunctionDef _ a _ _ _ _ _ _ _ _ => a
  | _ => { posonlyargs := [], args := [], vararg := none, kwonlyargs := [], kw_defaults := [], kwarg := none, defaults := [] }
noncomputable def defBody (s : Stmt) : List Stmt := match s with
  | .FunctionDef _ _ b _ _ _ _ _ _ _ => b
  | _ => []
noncomputable def defScope (s : Stmt) : Scope := match s with
  | .FunctionDef _ _ _ _ _ _ sc _ _ _ => sc
  | _ => { kind := .function, names := [], isGenerator := false, isCoroutine := false }

noncomputable abbrev CX0 : CXT := fun _ _ _ _ _ _ => False
noncomputable abbrev E0 : XK := fun _ _ _ => False
theorem pass0 {X : Cx} : Passes CX0 X E0 := fun _ _ _ _ _ _ _ h => h.elim

structure Fun (K : PySem.W.Frag) (x qual : Str) (st : Stmt) (f : Addr) (fd : FuncData) : Prop where
  ex : ∃ (oc : Value) (od : Option Addr) (kV doc pm : Value) (an : Option Addr) (cdv ct : Value) (osl : Array (Option Value)),
    fd = PySem.W.fnOf x qual (defArgs st) (defBody st) (defScope st) .none kV doc pm an cdv ct ∧ K.lookup f = some ⟨oc, od, .func fd, osl⟩ ∧ PySem.W.codeIn K cdv qual = true
  kp : PySem.W.keepIn K (.ref f) = true
section
variable {P : Program} {w : World} {K : PySem.W.Frag} {mg : Str → Option Value} {base : Heap}
theorem Fun.ok {x qual : Str} {st : Stmt} {f : Addr} {fd : FuncData} {N ps : List Str} {k : Nat} {sp : Sp} (F : Fun K x qual st f fd) (S : FnScope N ps (defScope st)) (len : ∀ vs H Q E, sp vs H Q E → vs.length = ps.length)
    (hbody : ∀ (cdv : Value) (A : Around) (outer : List Env) (s : Shared) (H : Hp) (vs : List V) (Q : VK) (E : XK), Room k (A.deeper (envOfC qual (defScope st) s.heap.objs.size f cdv)) → sp vs H Q E →
      ∃ t, PSs (cxOf CX0 P w K mg base N qual (defScope st) f cdv A outer s H E).nox (defBody st) t ∧ t { nx := fun _ H' => Q .non H', rt := Q } (start N vs) H) : FnOk P w K mg base CX0 (k + 1) f fd ps sp := by
  obtain ⟨oc, od, kV, doc, pm, an, cdv, ct, osl, rfl, lk, hcd⟩ := F.ex
  refine fn_of lk hcd S len fun A outer s H vs Q E hr hsp => ?_
  obtain ⟨t, h, q⟩ := hbody cdv A outer s H vs Q E hr hsp
  exact ⟨t, h.nox, q⟩
theorem Fun.binds {x qual : Str} {st : Stmt} {f : Addr} {fd : FuncData} {ps : List Str} (F : Fun K x qual st f fd)
    (h : ∀ (kV doc pm : Value) (an : Option Addr) (cdv ct : Value) (us : List Value), us.length = ps.length → bindArgs (PySem.W.fnOf x qual (defArgs st) (defBody st) (defScope st) .none kV doc pm an cdv ct) ⟨us, []⟩ = pure (ps.zip us)) : Binds K fd ps [] := by
  obtain ⟨oc, od, kV, doc, pm, an, cdv, ct, osl, rfl, lk, hcd⟩ := F.ex
  exact .all (h kV doc pm an cdv ct)
theorem fun_mk {x qual : Str} {st : Stmt} {f : Addr} {oc : Value} {od an : Option Addr} {osl : Array (Option Value)} {kV doc pm cdv ct : Value} (l : K.lookup f = some ⟨oc, od, .func (PySem.W.fnOf x qual (defArgs st) (defBody st) (defScope st) .none kV doc pm an cdv ct), osl⟩)
    (c : PySem.W.codeIn K cdv qual = true) (k : PySem.W.keepIn K (.ref f) = true) : Fun K x qual st f (PySem.W.fnOf x qual (defArgs st) (defBody st) (defScope st) .none kV doc pm an cdv ct) := ⟨⟨oc, od, kV, doc, pm, an, cdv, ct, osl, rfl, l, c⟩, k⟩
end
section
variable {X : Cx}
theorem pv (i : Nat) {x : Str} {pos : Pos} (hN : X.N[i]? = some x := by rfl) (hv : Vis X.env.scope x := by first | exact Or.inl rfl | exact Or.inr (Or.inl rfl) | exact Or.inr (Or.inr rfl)) (hd : (x == ("__debug__" : Str)) = false := by decide)
    (hcd : (x == ("__classdict__" : Str)) = false := by decide) : PE X (.Name x pos) (tVar i) := pe_var hN hv hd hcd
end

theorem iteF {A B : Prop} (h : B) : if false = true then A else B := by
  rw [if_neg Bool.false_ne_true]
  exact h
theorem iteT {A B : Prop} (h : A) : if true = true then A else B := by
  rw [if_pos rfl]
  exact h
theorem ite2 {c A B : Prop} [Decidable c] (h1 : c → A) (h2 : ¬ c → B) : if c then A else B := by
  by_cases h : c
  · rw [if_pos h]
    exact h1 h
  · rw [if_neg h]
    exact h2 h
theorem iteNS {c A B : Prop} [Decidable c] (hc : c) (h : B) : if (!decide c) = true then A else B := by
  rw [decide_eq_true hc]
  exact iteF h

noncomputable def Same (H H' : Hp) : Prop := ∀ b o, H b = some o → H' b = some o
theorem Same.refl (H : Hp) : Same H H := fun _ _ h => h
theorem Same.trans {H H1 H2 : Hp} (a : Same H H1) (b : Same H1 H2) : Same H H2 := fun c o h => b c o (a c o h)
theorem Same.free {H H' : Hp} (e : Same H H') {l : Addr} (h : H' l = Option.none) : H l = Option.none := by
  cases q : H l with
  | none => rfl
  | some o =>
    rw [e l o q] at h
    cases h
theorem Same.seq {K : PySem.W.Frag} {H H' : Hp} {a : Addr} {xs : List V} (e : Same H H') (h : SqL K H a xs) : SqL K H' a xs := by
  rcases h with (h | ⟨o, h⟩) | h
  · exact .inl (.inl (e _ _ h))
  · exact .inl (.inr ⟨o, e _ _ h⟩)
  · exact .inr h

end L2

set_option maxHeartbeats 4000000
namespace L2
open PySem PySem.Spec PyProof.Rows

theorem forIn_by {al be : Type} {l : List al} {f : al → be → Sem (ForInStep be)} (R : List al → be → Prop) : ∀ (pre rest : List al) (c : be), l = pre ++ rest → R pre c →
    (∀ pre x post c, l = pre ++ x :: post → R pre c → ∃ d, f x c = pure (.yield d) ∧ R (pre ++ [x]) d) → ∃ d, forIn rest c f = pure d ∧ R l d
  | pre, [], c, e, h0, _ => ⟨c, rfl, by rw [e, List.append_nil]; exact h0⟩
  | pre, x :: rest, c, e, h0, h => by
    obtain ⟨d, e1, r1⟩ := h pre x rest c e h0
    obtain ⟨d', e2, r2⟩ := forIn_by R (pre ++ [x]) rest d (by rw [e]; simp) r1 h
    exact ⟨d', by rw [List.forIn_cons, e1, pure_bind]; exact e2, r2⟩

theorem clos_get {scope : Scope} {env : Env} (h : ∀ y, (y, NameKind.free) ∈ scope.names → ∃ c, env.cells.lookup y = some c) :
    ∃ cl, closureFor scope env = pure cl ∧ (∀ y c, cl.lookup y = some c → env.cells.lookup y = some c) ∧ ∀ y, (y, NameKind.free) ∈ scope.names → ∃ c, cl.lookup y = some c := by
  have key := forIn_by (l := scope.names) (be := List (Str × Addr)) (f := fun x r => if (x.2 == NameKind.free) = true then do let a ← cellOf env x.1; pure (ForInStep.yield ((x.1, a) :: r)) else pure (ForInStep.yield r))
    (fun pre cs => (∀ y c, cs.lookup y = some c → env.cells.lookup y = some c) ∧ ∀ y, (y, NameKind.free) ∈ pre → ∃ c, cs.lookup y = some c) [] scope.names [] (by simp)
    ⟨fun y c e => by simp at e, fun y hy => by simp at hy⟩ (by
      rintro pre ⟨n, k⟩ post cs e ⟨r1, r2⟩
      by_cases hk : k = NameKind.free
      · subst hk
        obtain ⟨c, hc⟩ := h n (by rw [e]; simp)
        refine ⟨(n, c) :: cs, ?_, fun y d q => ?_, fun y hy => ?_⟩
        · have hco : cellOf env n = pure c := by unfold cellOf; rw [hc]
          simp only [beq_self_eq_true, if_true, hco, pure_bind]
        · by_cases hy : y = n
          · subst hy
            rw [List.lookup_cons, beq_self_eq_true] at q
            cases q; exact hc
          · have hb : (y == n) = false := by simpa using hy
            rw [List.lookup_cons, hb] at q
            exact r1 y d q
        · by_cases hn : y = n
          · exact ⟨c, by rw [hn, List.lookup_cons, beq_self_eq_true]⟩
          · have hb : (y == n) = false := by simpa using hn
            rw [List.lookup_cons, hb]
            refine r2 y ?_
            rcases List.mem_append.mp hy with z | z
            · exact z
            · simp at z; exact absurd z hn
      · refine ⟨cs, ?_, r1, fun y hy => r2 y ?_⟩
        · have hb : (k == NameKind.free) = false := by simpa using hk
          simp only [hb, Bool.false_eq_true, if_false]
        · rcases List.mem_append.mp hy with z | z
          · exact z
          · simp at z; exact absurd z.2.symm hk)
  obtain ⟨cl, e, r⟩ := key
  refine ⟨cl, ?_, r⟩
  have e' : closureFor scope env = forIn scope.names ([] : List (Str × Addr)) (fun x r => if (x.2 == NameKind.free) = true then do let a ← cellOf env x.1; pure (ForInStep.yield ((x.1, a) :: r)) else pure (ForInStep.yield r)) := by
    simp only [closureFor, bind_pure]
  rw [e', e]

noncomputable def Cx.cmp (X : Cx) (N : List Str) (scope : Scope) (cl : List (Str × Addr)) (C : Addr) (s : Shared) (H : Hp) (fp : List Addr) : Cx where
  prog := X.prog
  w := X.w
  K := X.K
  mg := X.mg
  base := X.base
  A := X.A
  N := N
  s₀ := s
  H₀ := H
  env := compEnvC scope cl C X.env
  outer := X.stack
  stack := X.stack
  ex := fp
  fn := fun _ => false
  calm := X.calm
  pn := []
  xe := fun _ _ => False

theorem look_map {names : List (Str × NameKind)} {q : Str → NameKind → Bool} {y : Str} : (names.map fun (n, k) => if q n k = true then (n, NameKind.cell) else (n, k)).lookup y = (names.lookup y).map fun k => if q y k = true then NameKind.cell else k := by
  induction names with
  | nil => rfl
  | cons p r ih =>
    obtain ⟨n, k⟩ := p
    rw [List.map_cons]
    by_cases hy : y = n
    · subst hy
      by_cases hq : q y k = true
      · simp [List.lookup_cons, hq]
      · simp [List.lookup_cons, hq]
    · have hb : (y == n) = false := by simpa using hy
      by_cases hq : q n k = true
      · simp only [hq, if_true, List.lookup_cons, hb]; exact ih
      · simp only [hq, Bool.false_eq_true, if_false, List.lookup_cons, hb]; exact ih

section
variable {X : Cx} {pins : List (Addr × Obj)} {σ : St} {H : Hp} {s : Shared} {fp : List Addr} {scope : Scope} {cl : List (Str × Addr)} {N : List Str} {C : Addr}

structure CmpScope (X : Cx) (N : List Str) (scope : Scope) : Prop where
  kind : scope.kind = .function
  nocell : ∀ y ∈ scope.names, y.2 ≠ .cell
  loc : ∀ y ∈ scope.names, y.2 = .local → scope.names.lookup y.1 = some .local
  fre : ∀ y, scope.names.lookup y = some .free → X.env.kindOf y = some .cell
  fre2 : ∀ y, (y, NameKind.free) ∈ scope.names → X.env.kindOf y = some .cell
  nd : N.Nodup
  at0 : ∀ y, scope.names.lookup y = some .free → (y, NameKind.free) ∈ scope.names

theorem cmp_ok (S : CmpScope X N scope) (I : Inv X pins σ H s) (hf : ∀ b ∈ fp, FpOk X pins H b) (ho : ∀ b ∈ fp, ∃ o, s.heap.get? b = some o) (hcl : ∀ y c, cl.lookup y = some c → X.env.cells.lookup y = some c)
    (hcf : ∀ y, (y, NameKind.free) ∈ scope.names → ∃ c, cl.lookup y = some c) (hC : s.heap.objs.size ≤ C) : (X.cmp N scope cl C s H fp).Ok where
  mod := I.ok.mod
  kind := S.kind
  glob := I.ok.glob
  blt := I.ok.blt
  above := hC
  inj := fun x y c h1 h2 => I.ok.inj x y c (hcl x c h1) (hcl y c h2)
  has := fun y hy => by
    have hy' : (relabel scope X.env).names.lookup y = some .cell ∨ (relabel scope X.env).names.lookup y = some .free := hy
    have e : (relabel scope X.env).names.lookup y = (scope.names.lookup y).map fun k => if (k == .free && X.env.scope.kind == .function && X.env.kindOf y == some .cell) = true then NameKind.cell else k :=
      look_map (q := fun n k => k == .free && X.env.scope.kind == .function && X.env.kindOf n == some .cell)
    rw [e] at hy'
    cases q : scope.names.lookup y with
    | none => rw [q] at hy'; simp at hy'
    | some k =>
      by_cases hk : k = NameKind.free
      · subst hk
        exact hcf y (S.at0 y q)
      · exfalso
        have hb : (k == NameKind.free) = false := by simpa using hk
        rw [q] at hy'
        simp only [Option.map_some, hb, Bool.false_and, Bool.false_eq_true, if_false, Option.some.injEq] at hy'
        rcases hy' with z | z
        · exact S.nocell _ (PySem.mem_of_lookup q) z
        · exact hk z
  cab := fun y c h _ => nomatch h
  hd := I.ok.hd
  frames := I.ok.frames
  stk := .inl rfl
  exf := fun b hb => by
    obtain ⟨o, e⟩ := ho b hb
    obtain ⟨_, _, _, _, f4, _⟩ := hf b hb
    exact ⟨Nat.ne_of_lt (Nat.lt_of_lt_of_le (Heap.lt_size e) hC), fun x c q => f4 x c (hcl x c q)⟩
  bs := I.bs
  bsz := Nat.le_trans I.ok.bsz I.sz
  noex := fun b o e hb => by
    obtain ⟨_, _, _, f3, _, _⟩ := hf b hb
    rcases f3 with z | z
    · exact I.ok.noex b o e z
    · exact absurd (Nat.lt_of_lt_of_le (Heap.lt_size e) (Nat.le_trans I.ok.bsz z)) (Nat.lt_irrefl _)
  exfs := fun b hb z => by
    obtain ⟨_, f1, f2, _⟩ := hf b hb
    rcases List.mem_cons.mp (I.stkSub b z) with e | e
    · exact f1 e
    · exact f2 e
  funs := I.stack
  frf := I.stkFree

noncomputable def freeSt (k : Nat) (fr : List Nat) (σ : St) : St := List.replicate k none ++ fr.map fun i => (σ[i]?).join

structure CmpFree (X : Cx) (N : List Str) (scope : Scope) (k : Nat) (fr : List Nat) : Prop where
  len : N.length = k + fr.length
  at1 : ∀ (j i : Nat) (y : Str), fr[j]? = some i → N[k + j]? = some y → X.N[i]? = some y ∧ scope.names.lookup y = some .free

theorem cmp_start (S : CmpScope X N scope) {k : Nat} {fr : List Nat} (F : CmpFree X N scope k fr) (I : Inv X pins σ H s) (hf : ∀ b ∈ fp, FpOk X pins H b) (ho : ∀ b ∈ fp, ∃ o, s.heap.get? b = some o)
    (hcl : ∀ y c, cl.lookup y = some c → X.env.cells.lookup y = some c) (hcf : ∀ y, (y, NameKind.free) ∈ scope.names → ∃ c, cl.lookup y = some c) (hC : s.heap.objs.size ≤ C)
    {s1 : Shared} {m : Str → Option Value} {D : Addr} {oD : Obj} (hos : s1.os = s.os) (hg : s1.gens = s.gens) (kp : ∀ b o, s.heap.get? b = some o → s1.heap.get? b = some o) (hn : s1.heap.Ns C m)
    (hD : s1.heap.get? D = some oD) (hD0 : s.heap.objs.size ≤ D) (hDC : D ≠ C) (hdc : ∀ v, oD.data ≠ .cell v) :
    Inv (X.cmp N scope cl C s H fp) [(D, oD)] (freeSt k fr σ) H s1 := by
  have hfs : D ∉ frs X.stack := fun z => by
    obtain ⟨_, o, q, _⟩ := I.stack.mem z
    exact absurd (Nat.lt_of_lt_of_le (Heap.lt_size q) hD0) (Nat.lt_irrefl _)
  refine ⟨cmp_ok S I hf ho hcl hcf hC, hos, by rw [hg]; exact I.bare, Un.kept kp, ⟨m, hn, fun i x v e1 e2 e3 => ?_⟩, fun y c e => ?_, I.hok.fresh hC, fun y c e => I.freeC y c (hcl y c e), fun p hp => ?_, I.hok.kept kp, ?_⟩
  · -- a name that has a value is a free one
    unfold freeSt at e2
    by_cases hi : i < k
    · rw [List.getElem?_append_left (by simpa using hi), List.getElem?_replicate] at e2
      split at e2 <;> cases e2
    · obtain ⟨j, rfl⟩ : ∃ j, i = k + j := ⟨i - k, by lia⟩
      rw [List.getElem?_append_right (by simp), List.length_replicate, Nat.add_sub_cancel_left, List.getElem?_map] at e2
      cases q : fr[j]? with
      | none => rw [q] at e2; cases e2
      | some i' =>
        rw [q] at e2
        have e2' : (σ[i']?).join = some v := Option.some.inj e2
        obtain ⟨a1, a2⟩ := F.at1 j i' x q e1
        have hk := S.fre x a2
        obtain ⟨m0, hn0, hl0⟩ := I.loc
        have hv : σ[i']? = some (some v) := by
          cases z : σ[i']? with
          | none => rw [z] at e2'; cases e2'
          | some w => rw [z] at e2'; rw [show w = some v from e2']
        obtain ⟨u, r, l⟩ := hl0 i' x v a1 hv (.inr (.inl hk))
        refine ⟨u, r, .inr ⟨.inl ?_, ?_⟩⟩
        · show (relabel scope X.env).names.lookup x = some .cell
          have e : (relabel scope X.env).names.lookup x = (scope.names.lookup x).map fun k => if (k == .free && X.env.scope.kind == .function && X.env.kindOf x == some .cell) = true then NameKind.cell else k :=
            look_map (q := fun n k => k == .free && X.env.scope.kind == .function && X.env.kindOf n == some .cell)
          rw [e, a2, hk, I.ok.kind]
          rfl
        · obtain ⟨c, hc⟩ := hcf x (S.at0 x a2)
          refine ⟨c, hc, ?_⟩
          rcases l with ⟨z, _⟩ | ⟨_, c', hc', z⟩
          · rw [hk] at z; cases z
          · have ec := hcl x c hc
            rw [hc'] at ec; cases ec
            obtain ⟨o, ho, hd⟩ := z
            exact ⟨o, kp _ _ ho, hd⟩
  · obtain ⟨v, o, q, d⟩ := I.cell y c (hcl y c e)
    exact ⟨v, o, kp _ _ q, d⟩
  · have hp' : p = (D, oD) := by simpa [Cx.cmp] using hp
    subst hp'
    exact ⟨hD, I.hok.fresh hD0, hDC, hfs, hdc⟩
  · unfold freeSt
    show _ = N.length
    rw [List.length_append, List.length_replicate, List.length_map, F.len]

noncomputable abbrev lstO (its : List Value) (n : Nat) : Obj := { cls := .type "list", data := .seq its.toArray n }

theorem cmp_back {σ' : St} {H' : Hp} {s' : Shared} {D : Addr} {its : List Value} {n : Nat} {ys : List V} (I : Inv X pins σ H s) (hf : ∀ b ∈ fp, FpOk X pins H b) (J : Inv (X.cmp N scope cl C s H fp) [(D, lstO its n)] σ' H' s') (r : Vals ys its)
    (hz : ys.length ≤ sizeLine) (hD0 : s.heap.objs.size ≤ D) : H' D = none ∧ Inv X pins σ (upd H' D (.lst ys)) s' := by
  obtain ⟨e1, hn, _, _, _⟩ := J.pin (D, lstO its n) (by simp [Cx.cmp])
  have e1 : s'.heap.get? D = some (lstO its n) := e1
  have hn : H' D = none := hn
  have u := J.base
  have neD : ∀ b o, s.heap.get? b = some o → b ≠ D := fun b o q => Nat.ne_of_lt (Nat.lt_of_lt_of_le (Heap.lt_size q) hD0)
  have u' : Un (frs X.stack) fp H (upd H' D (.lst ys)) s.heap s'.heap :=
    ⟨u.keep, u.slot, fun b o q z hx => by rw [upd_ne (neD b o q)]; exact u.free b o q z hx, u.there, fun b xs q => by rw [upd_ne (ne_of_none (u.tups b xs q) hn)]; exact u.tups b xs q,
      fun b o x q => by rw [upd_ne (ne_of_none (u.frzs b o x q) hn)]; exact u.frzs b o x q, fun b ps q => by
        obtain ⟨more, z⟩ := u.tbls b ps q
        exact ⟨more, by rw [upd_ne (ne_of_none z hn)]; exact z⟩⟩
  have hok : HOk X.prog X.w (upd H' D (.lst ys)) s'.heap := fun b o q => by
    by_cases hb : b = D
    · subst hb
      rw [upd_same] at q
      cases q
      exact ⟨hz, its, n, r, e1⟩
    · rw [upd_ne hb] at q
      exact (J.hok b o q).stay (fun c v _ z => z) (fun c z => by rw [upd_ne (ne_of_none z hn)]; exact z) fun c xs z => by rw [upd_ne (ne_of_none z hn)]; exact z
  refine ⟨hn, ?_⟩
  have os := J.os
  have bare := J.bare
  obtain ⟨hh, g, d, t, os'⟩ := s'
  obtain rfl : os' = s.os := os
  exact I.call (h' := hh) (g' := g) (d' := d) (t' := t) (ch := fp) u' hok bare fun b hb => by
    obtain ⟨_, f1, _, f3, f4, f5⟩ := hf b hb
    exact ⟨f3, f1, f4, f5⟩
end
end L2
namespace L2
open PySem PySem.Spec PyProof.Rows

noncomputable def PF (X : Cx) (ifs : List Expr) (t : TT) : Prop :=
  ∀ (pins : List (Addr × Obj)) (s : Shared) (σ : St) (H : Hp) (Q : Bool → Hp → Prop), Inv X pins σ H s → t σ H Q →
    wpAny (model X.prog X.w) X.A (forIn ifs true fun c r => if r = true then do let ok ← isTrue c X.env (eval c X.env); pure (ForInStep.yield ok) else pure (ForInStep.yield r)) (TP X pins σ Q) X.xe s
noncomputable def tTrue : TT := fun _ H Q => Q true H
theorem pf_nil {X : Cx} : PF X [] tTrue := fun _ _ _ H _ I h => wpAny_tests_nil ⟨H, I, h⟩
section
variable {prog : Program} {w : World} {A : Around}
theorem noE {al : Type} {t : Sem al} {Q : al → Shared → Prop} {E : Value → Shared → Prop} {s : Shared} (h : wpAny (model prog w) A t Q (fun _ _ => False) s) : wpAny (model prog w) A t Q E s :=
  wpAny_mono h (fun _ _ x => x) fun _ _ f => f.elim
theorem cmp_loop {R : Result → Shared → Prop} {s : Shared} {elt tg iter : Expr} {ifs : List Expr} {scope : Scope} {pos : Pos} {it acc : Value} {env : Env} (I : Nat → Shared → Prop)
    (turn : ∀ n s, I n s → wpAny (model prog w) A (pyNext it) (fun r s1 => (r = none ∧ R (.ok .next) s1) ∨ ∃ v, r = some v ∧
      wpAny (model prog w) A (letOwnedTupleGo tg it v) (fun _ s2 => wpAny (model prog w) A (assign tg env v) (fun _ s3 =>
        wpAny (model prog w) A (forIn ifs true fun c r => if r = true then do let ok ← isTrue c env (eval c env); pure (ForInStep.yield ok) else pure (ForInStep.yield r)) (fun ok s4 =>
          if ok = true then wpAny (model prog w) A (eval elt env) (fun x s5 =>
            wpAny (model prog w) A (call (.builtin "list.append") [acc, x]) (fun _ s6 => ∃ m, m < n ∧ I m s6) (fun _ _ => False) s5) (fun _ _ => False) s4
          else ∃ m, m < n ∧ I m s4) (fun _ _ => False) s3) (fun _ _ => False) s2) (fun _ _ => False) s1) (fun _ _ => False) s)
    (n : Nat) (h : I n s) : codeAny (model prog w) A (.compLoop (.ListComp elt [⟨tg, iter, ifs, 0⟩] scope pos) 0 it acc env) R s := by
  refine codeAny_loop rfl I (fun n s hI => ?_) n h
  show wpAny _ A ((compTurn (.ListComp elt [⟨tg, iter, ifs, 0⟩] scope pos) 0 it acc env).onRaise (fun x => do noteFrame x env; theTreesLotGoes x)) _ _ s
  refine wpAny_noted ?_
  rw [compTurn_list]
  refine wpAny_bind (wpAny_standAt (wpAny_bind (noE (thn (turn n s hI) fun r s1 h1 => ?_))))
  rcases h1 with ⟨rfl, h1⟩ | ⟨v, rfl, h1⟩
  · exact wpAny_pure h1
  · refine wpAny_bind (noE (thn h1 fun _ s2 h2 => wpAny_bind (noE (thn h2 fun _ s3 h3 => wpAny_bind (noE (thn h3 fun ok s4 h4 => ?_))))))
    cases ok with
    | false => exact wpAny_pure ⟨rfl, h4⟩
    | true => exact wpAny_bind (wpAny_bind (noE (thn h4 fun x s5 h5 => wpAny_bind (noE (thn h5 fun _ s6 h6 => wpAny_pure (wpAny_pure ⟨rfl, h6⟩))))))
end

noncomputable def GKeeps (k : Nat) (g : TG) : Prop := ∀ v σ H Q, g v σ H Q → g v σ H fun σ2 H2 => (σ2.length = σ.length ∧ ∀ i, k ≤ i → σ2[i]? = σ[i]?) ∧ Q σ2 H2
theorem gk_name {k i : Nat} (h : i < k) : GKeeps k (gName i) := fun v σ H Q q => ⟨⟨List.length_set, fun j hj => List.getElem?_set_ne (by lia)⟩, q⟩
noncomputable def tComp (k : Nat) (fr : List Nat) (wi : TI) (g : TG) (tc : TT) (te : TE) : TE := fun σ H Q => wi σ H fun J H1 => ∃ W : Nat → Nat → List V → Hp → Prop, (∃ m, W 0 m [] H1) ∧ ∀ i m ys H, W i m ys H →
  (J.stop i H ∧ ∀ D, H D = none → Q (.ref D) (upd H D (.lst ys))) ∨
  (J.go i H ∧ ys.length < sizeLine ∧ ∃ Nx : List V → Hp → Prop, (∀ ys' H', Nx ys' H' → ∃ m', m' < m ∧ W (i + 1) m' ys' H') ∧
    ∀ x H', J.yld i H x H' → g x (freeSt k fr σ) H' fun σ2 H2 => tc σ2 H2 fun b H3 => if b = true then te σ2 H3 fun y H4 => Nx (ys ++ [y]) H4 else Nx ys H3)

section
variable {X : Cx} {pins : List (Addr × Obj)} {σ : St} {tg elt iter : Expr} {ifs : List Expr} {scope : Scope} {pos : Pos} {N : List Str} {k : Nat} {fr : List Nat} {wi : TI} {g : TG} {tc : TT} {te : TE}

theorem cmp_block (S : CmpScope X N scope) (F : CmpFree X N scope k fr) (hc : X.calm = true)
    (hg : ∀ cl C s H fp, PG (X.cmp N scope cl C s H fp) tg g) (hk : GKeeps k g) (hi : ∀ cl C s H fp, PF (X.cmp N scope cl C s H fp) ifs tc) (he : ∀ cl C s H fp, PE (X.cmp N scope cl C s H fp) elt te)
    {s2 : Shared} {it : Addr} {fp : List Addr} {tn : Nat → Heap → Prop} {J : It} {H2 : Hp} (I : Inv X pins σ H2 s2) (T : Turn X.prog X.w X.K tg J fp it tn) (st : tn 0 s2.heap) (f2 : ∀ b ∈ fp, FpOk X pins H2 b)
    {W : Nat → Nat → List V → Hp → Prop} {m0 : Nat} (w0 : W 0 m0 [] H2) {Fin : List V → Hp → Prop}
    (turn : ∀ i m ys H, W i m ys H → (J.stop i H ∧ Fin ys H) ∨
      (J.go i H ∧ ys.length < sizeLine ∧ ∃ Nx : List V → Hp → Prop, (∀ ys' H', Nx ys' H' → ∃ m', m' < m ∧ W (i + 1) m' ys' H') ∧
        ∀ x H', J.yld i H x H' → g x (freeSt k fr σ) H' fun σ2 H2 => tc σ2 H2 fun b H3 => if b = true then te σ2 H3 fun y H4 => Nx (ys ++ [y]) H4 else Nx ys H3))
    {cl : List (Str × Addr)} (hcl : ∀ y c, cl.lookup y = some c → X.env.cells.lookup y = some c) (hcf : ∀ y, (y, NameKind.free) ∈ scope.names → ∃ c, cl.lookup y = some c)
    {RR : Value → Addr → Result → Shared → Prop} {E : Value → Shared → Prop}
    (hRR : ∀ D C s' its n ys H' σ', s2.heap.objs.size ≤ D → s2.heap.objs.size ≤ C → D ≠ C → Inv (X.cmp N scope cl C s2 H2 fp) [(D, lstO its n)] σ' H' s' → Vals ys its → ys.length ≤ sizeLine → Fin ys H' → RR (.ref D) C (.ok .next) s') :
    wpAny (model X.prog X.w) X.A (newList []) (fun acc s3 => wpAny (model X.prog X.w) X.A (newFunctionEnv scope X.env.globals cl [] X.env.qual none .none (some X.env)) (fun cenv s4 =>
      codeAny (model X.prog X.w) X.A (.compStart (.ListComp elt [⟨tg, iter, ifs, 0⟩] scope pos) 0 (.ref it) acc { cenv with scope := relabel scope X.env }) (RR acc cenv.locals) s4) E s3) E s2 := by
  refine wpAny_newObj_type (wpAny_newFunctionEnv S.nocell (by intro y hy; simp at hy) (fun h1 hns sb => ?_) S.kind)
  dsimp only at hns sb ⊢
  generalize hG : s2.heap.push { cls := .type "list", dict := none, data := .seq ([] : List Value).toArray } = G at hns sb ⊢
  have hC : G.objs.size = s2.heap.objs.size + 1 := by rw [← hG, Heap.size_push]
  have hDC : s2.heap.objs.size ≠ G.objs.size := by rw [hC]; exact Nat.ne_of_lt (Nat.lt_succ_self _)
  have old : ∀ b o, s2.heap.get? b = some o → h1.get? b = some o := fun b o e =>
    sb.extBut b o (by rw [hC]; exact Nat.ne_of_lt (Nat.lt_succ_of_lt (Heap.lt_size e))) (Heap.get?_push_of_some _ (hG ▸ Heap.get?_push_of_some _ e))
  have hacc : h1.get? s2.heap.objs.size = some (lstO [] 0) := sb.extBut _ _ hDC (Heap.get?_push_of_some _ (hG ▸ Heap.get?_push_size _ rfl))
  have hfo : ∀ b ∈ fp, ∃ o, s2.heap.get? b = some o := fun b hb => let ⟨o, e, _⟩ := T.obj 0 _ st b hb; ⟨o, e⟩
  have ltD : ∀ b ∈ fp, b ≠ s2.heap.objs.size := fun b hb => let ⟨o, e⟩ := hfo b hb; Nat.ne_of_lt (Heap.lt_size e)
  generalize hX : X.cmp N scope cl G.objs.size s2 H2 fp = X'
  have I0 : Inv X' [(s2.heap.objs.size, lstO [] 0)] (freeSt k fr σ) H2 { s2 with heap := h1, toks := s2.toks + ([] : List (Str × Value)).length } := by
    rw [← hX]
    exact cmp_start S F I f2 hfo hcl hcf (by rw [hC]; exact Nat.le_succ _) rfl rfl old hns hacc (Nat.le_refl _) hDC fun v z => by cases z
  have eP : X'.prog = X.prog := by rw [← hX]; rfl
  have eW : X'.w = X.w := by rw [← hX]; rfl
  have eK : X'.K = X.K := by rw [← hX]; rfl
  have eA : X'.A = X.A := by rw [← hX]; rfl
  have eC : X'.calm = true := by rw [← hX]; exact hc
  have eE : X'.env = compEnvC scope cl G.objs.size X.env := by rw [← hX]; rfl
  have eX : X'.xe = fun _ _ => False := by rw [← hX]; rfl
  have eF : X'.ex = fp := by rw [← hX]; rfl
  have eS : X'.s₀ = s2 := by rw [← hX]; rfl
  have ePn : X'.pn = [] := by rw [← hX]; rfl
  have T' : Turn X'.prog X'.w X'.K tg J fp it tn := by rw [eP, eW, eK]; exact T
  have hg' : PG X' tg g := by rw [← hX]; exact hg _ _ _ _ _
  have hi' : PF X' ifs tc := by rw [← hX]; exact hi _ _ _ _ _
  have he' : PE X' elt te := by rw [← hX]; exact he _ _ _ _ _
  have stat : ∀ {o : Obj} {H' : Hp}, (∀ b ∈ fp, H' b = none) → ∀ b ∈ fp, FpOk X' [(s2.heap.objs.size, o)] H' b := fun {o H'} hn b hb => by
    have ok := I0.ok
    obtain ⟨z1, z2⟩ := ok.exf b (by rw [eF]; exact hb)
    refine ⟨hn b hb, z1, ok.exfs b (by rw [eF]; exact hb), .inl (by rw [eF]; exact hb), z2, fun p hp => ?_⟩
    rw [ePn] at hp
    have hp' : p = (s2.heap.objs.size, o) := by simpa using hp
    rw [hp']
    exact fun z => ltD b hb z.symm
  -- back to the block's first names
  have back : ∀ {pl : List (Addr × Obj)} {σ6 : St} {H6 : Hp} {s6 : Shared}, Inv X' pl σ6 H6 s6 → (σ6.length = (freeSt k fr σ).length ∧ ∀ i, k ≤ i → σ6[i]? = (freeSt k fr σ)[i]?) → Inv X' pl (freeSt k fr σ) H6 s6 := fun {pl σ6 H6 s6} I6 ⟨l1, l2⟩ =>
    I6.weak l1.symm fun i v e => by
      by_cases hik : i < k
      · unfold freeSt at e
        rw [List.getElem?_append_left (by simpa using hik), List.getElem?_replicate] at e
        split at e <;> cases e
      · rw [l2 i (by lia)]; exact e
  have loop : codeAny (model X.prog X.w) X.A (.compLoop (.ListComp elt [⟨tg, iter, ifs, 0⟩] scope pos) 0 (.ref it) (.ref s2.heap.objs.size) (compEnvC scope cl G.objs.size X.env))
      (RR (.ref s2.heap.objs.size) G.objs.size) { s2 with heap := h1, toks := s2.toks + ([] : List (Str × Value)).length } := by
    rw [← eP, ← eW, ← eA, ← eE]
    refine cmp_loop (fun n s' => ∃ i ys its nn H', Inv X' [(s2.heap.objs.size, lstO its nn)] (freeSt k fr σ) H' s' ∧ Vals ys its ∧ ys.length ≤ sizeLine ∧ tn i s'.heap ∧ (∀ b ∈ fp, H' b = none) ∧ W i n ys H') ?_ m0
      ⟨0, [], [], 0, H2, I0, .nil, Nat.zero_le _, T.keep _ _ _ st fun b _ o e => old b o e, fun b hb => (f2 b hb).1, w0⟩
    rintro n s' ⟨i, ys, its, nn, H', I', rv, hz, st', fr', w'⟩
    rcases turn i n ys H' w' with ⟨stop, fin⟩ | ⟨go, hlt, Nx, hN, step⟩
    · refine thn (T'.done X' rfl rfl rfl eC i _ s' _ H' _ I' (stat fr') st' stop) fun r s1 ⟨hr, I1⟩ => .inl ⟨hr, ?_⟩
      rw [← hX] at I1
      exact hRR _ _ s1 its nn ys H' _ (Nat.le_refl _) (by rw [hC]; exact Nat.le_succ _) hDC I1 rv hz fin
    · refine thn (T'.item X' rfl rfl rfl eC i _ s' _ H' _ I' (stat fr') st' go) fun r s1 ⟨u, hr, h4⟩ => .inr ⟨u, hr, thn h4 fun _ s5 ⟨x, H5, I5, r5, y5, st5, fr5⟩ => ?_⟩
      have I5' := I5.pinned (stat fr5) (T.obj _ _ st5)
      have hgx := hg' _ s5 _ H5 x u _ I5' r5 (hk _ _ _ _ (step x H5 y5))
      rw [eX] at hgx
      refine thn hgx fun _ s6 ⟨σ6, H6, I6, l6, q6⟩ => ?_
      have hix := hi' _ s6 σ6 H6 _ I6 q6
      rw [eX] at hix
      have pinD : ∀ {σ7 : St} {H7 : Hp} {s7 : Shared}, Inv X' ([(s2.heap.objs.size, lstO its nn)] ++ pinsAt fp s5.heap) σ7 H7 s7 → s7.heap.get? s2.heap.objs.size = some (lstO its nn) ∧ H7 s2.heap.objs.size = none ∧ s2.heap.objs.size ≠ X'.env.locals := fun I7 => by
        obtain ⟨z1, z2, z3, _⟩ := I7.pin (s2.heap.objs.size, lstO its nn) (List.mem_append_right _ (List.mem_append_left _ (by simp)))
        exact ⟨z1, z2, z3⟩
      have iter2 : ∀ {σ7 : St} {H7 : Hp} {s7 : Shared}, Inv X' ([(s2.heap.objs.size, lstO its nn)] ++ pinsAt fp s5.heap) σ7 H7 s7 → tn (i + 1) s7.heap ∧ ∀ b ∈ fp, H7 b = none := fun {σ7 H7 s7} I7 =>
        ⟨T.keep _ _ _ st5 fun b hb o e => (I7.pin (b, o) (List.mem_append_right _ (List.mem_append_right _ (mem_pinsAt hb e)))).1, fun b hb => by
          obtain ⟨o, e, d⟩ := T.obj _ _ st5 b hb
          exact (I7.pin (b, o) (List.mem_append_right _ (List.mem_append_right _ (mem_pinsAt hb e)))).2.1⟩
      refine thn hix fun ok s7 ⟨H7, I7, q7⟩ => ?_
      cases ok with
      | false =>
        obtain ⟨m', hm, w7⟩ := hN _ _ (show Nx ys H7 from q7)
        obtain ⟨a1, a2⟩ := iter2 I7
        exact ⟨m', hm, i + 1, ys, its, nn, H7, back I7.unpinned l6, rv, hz, a1, a2, w7⟩
      | true =>
        have hex := he' _ s7 σ6 H7 _ I7 (show te σ6 H7 _ from q7)
        rw [eX] at hex
        refine thn hex fun v s8 ⟨y, H8, I8, r8, q8⟩ => ?_
        obtain ⟨z1, z2, z3⟩ := pinD I8
        obtain ⟨a1, a2⟩ := iter2 I8
        obtain ⟨m', hm, w8⟩ := hN _ _ q8
        have hl := rv.length
        refine append_at (hsz := by show its.toArray.size ≤ sizeLine; rw [List.size_toArray]; lia) z1 fun h9 sb9 hD9 => ?_
        have I8' : Inv X' (pinsAt fp s5.heap) (freeSt k fr σ) H8 s8 := (back I8 l6).pins_of fun p hp => I8.pin p (List.mem_append_right _ (List.mem_append_right _ hp))
        have I9 : Inv X' (pinsAt fp s5.heap) (freeSt k fr σ) H8 { s8 with heap := h9 } := I8'.turned (t' := s8.toks) (it := s2.heap.objs.size) (fun b o hb e => (sb9.2 b hb).trans e) z2 z3 (.inr (by rw [eS]; exact Nat.le_refl _))
          (fun y c e z => by
            obtain ⟨v', q⟩ := I0.cell y c e
            have hcl' : cl.lookup y = some c := by rw [eE] at e; exact e
            obtain ⟨v2, q2⟩ := I.cell y c (hcl y c hcl')
            rw [z] at q2
            exact absurd q2.lt (Nat.lt_irrefl _))
          (fun p hp z => by
            rw [ePn] at hp
            exact ltD p.1 (of_pinsAt hp).1 z)
        have I9' : Inv X' [(s2.heap.objs.size, lstO (its ++ [v]) (nn + 1))] (freeSt k fr σ) H8 { s8 with heap := h9 } := I9.pins_of fun p hp => by
          have hp' : p = (s2.heap.objs.size, lstO (its ++ [v]) (nn + 1)) := by simpa using hp
          rw [hp']
          refine ⟨?_, z2, z3, ?_, fun v z => by cases z⟩
          · show h9.get? _ = _
            rw [hD9]
            simp [lstO]
          · exact (I8.pin (s2.heap.objs.size, lstO its nn) (List.mem_append_right _ (List.mem_append_left _ (by simp)))).2.2.2.1
        refine ⟨m', hm, i + 1, ys ++ [y], its ++ [v], nn + 1, H8, I9', rv.append (.cons r8 .nil), by rw [List.length_append]; simp; lia, ?_, a2, w8⟩
        exact T.keep _ _ _ a1 fun b hb o e => (sb9.2 b (ltD b hb)).trans e
  exact codeAny_compStart_list loop (T.self _ 0 _ _ _ (T.keep _ _ _ st fun b _ o e => old b o e) loop)

theorem cmp_off {s2 s' : Shared} {fp : List Addr} {cl : List (Str × Addr)} {H2 H' : Hp} {σ' : St} {D C : Addr} {o : Obj} {u : HO} {h' : Heap} {σ0 : St} (I : Inv X pins σ H2 s2) (hC : s2.heap.objs.size ≤ C) (hDC : D ≠ C)
    (J : Inv (X.cmp N scope cl C s2 H2 fp) [(D, o)] σ' H' s') {s9 : Shared} (I' : Inv X pins σ0 (upd H' D u) s9) (sb : Heap.SameBut C s9.heap h') : Inv X pins σ0 (upd H' D u) { s9 with heap := h' } := by
  refine I'.turned (t' := s9.toks) (it := C) (fun b o hb e => (sb.2 b hb).trans e) (by rw [upd_ne (Ne.symm hDC)]; exact J.free) (Nat.ne_of_gt (Nat.lt_of_lt_of_le I.lt hC)) (.inr (Nat.le_trans I.sz hC)) (fun y c e z => ?_) fun p hp z => ?_
  · obtain ⟨v, q⟩ := I.cell y c e
    exact absurd (Nat.lt_of_lt_of_le q.lt (by rw [z]; exact hC)) (Nat.lt_irrefl _)
  · exact absurd (Nat.lt_of_lt_of_le (Heap.lt_size (I.pin p hp).1) (by rw [z]; exact hC)) (Nat.lt_irrefl _)

theorem pe_comp (S : CmpScope X N scope) (F : CmpFree X N scope k fr) (hc : X.calm = true) (hit : PI X tg iter wi)
    (hg : ∀ cl C s H fp, PG (X.cmp N scope cl C s H fp) tg g) (hk : GKeeps k g) (hi : ∀ cl C s H fp, PF (X.cmp N scope cl C s H fp) ifs tc) (he : ∀ cl C s H fp, PE (X.cmp N scope cl C s H fp) elt te)
    (hs : ∀ x, foldedSetIterable iter X.env x = pure x := by intro _; rfl) : PE X (.ListComp elt [⟨tg, iter, ifs, 0⟩] scope pos) (tComp k fr wi g tc te) := by
  intro pins s σ H Q I h
  rw [eval_ListComp]
  obtain ⟨cl, ecl, hcl, hcf⟩ := clos_get (scope := scope) (env := X.env) fun y hy => I.ok.has y (.inl (S.fre2 y hy))
  refine wpAny_comprehension_free (use := none) rfl hs ecl S.kind S.loc (thn (hit pins s σ H _ I h) fun v s1 h1 => thn h1 fun itv s2 h2 => ?_)
  obtain ⟨it, fp, tn, J, H2, e, I2, T, st2, f2, W, ⟨m0, w0⟩, turn⟩ := h2
  subst e
  refine cmp_block S F hc hg hk hi he I2 T st2 f2 w0 (Fin := fun ys H' => ∀ D, H' D = none → Q (.ref D) (upd H' D (.lst ys))) turn hcl hcf (RR := fun acc C => compPost (model X.prog X.w) X.A X.xe none (EP X pins σ Q) acc C) ?_
  intro D C s' its n ys H' σ' hD hC hDC J' rv hz fin
  obtain ⟨hn, I'⟩ := cmp_back I2 f2 J' rv hz hD
  obtain ⟨m, hm, _⟩ := J'.loc
  exact ⟨m, hm, fun h' sb => ⟨.ref D, _, cmp_off I2 hC hDC J' I' sb, rfl, fin D hn⟩⟩

theorem ps_comp {i : Nat} {y : Str} {py spos : Pos} (hN : X.N.Nodup) (hi' : X.N[i]? = some y) (hx : Loc X.env.scope y) (S : CmpScope X N scope) (F : CmpFree X N scope k fr) (hc : X.calm = true) (hit : PI X tg iter wi)
    (hg : ∀ cl C s H fp, PG (X.cmp N scope cl C s H fp) tg g) (hk : GKeeps k g) (hi : ∀ cl C s H fp, PF (X.cmp N scope cl C s H fp) ifs tc) (he : ∀ cl C s H fp, PE (X.cmp N scope cl C s H fp) elt te)
    (hsw : swapsWith (.ListComp elt [⟨tg, iter, ifs, 0⟩] scope pos) (some (.Name y py)) spos.line X.env = pure true)
    (hs : ∀ x, foldedSetIterable iter X.env x = pure x := by intro _; rfl) (hf : X.fn y = true ∨ X.env.scope.names.lookup y = some .local := by first | exact .inl rfl | exact .inr rfl | assumption) :
    PS X (.Assign [.Name y py] (.ListComp elt [⟨tg, iter, ifs, 0⟩] scope pos) spos) (tAsg (tComp k fr wi g tc te) (gName i)) := by
  intro pins s σ H D0 I h
  obtain ⟨cl, ecl, hcl, hcf⟩ := clos_get (scope := scope) (env := X.env) fun y hy => I.ok.has y (.inl (S.fre2 y hy))
  rw [exec_Assign_Name_used _ _ _ _ hsw]
  refine wpAny_bind (wpAny_standAt (wpAny_bind ?_))
  show wpAny _ X.A (do let _ ← comprehension (.ListComp elt [⟨tg, iter, ifs, 0⟩] scope pos) scope X.env _ (newList []) false (eval iter X.env) (some (assign (.Name y py) X.env))) _ _ s
  refine wpAny_bind (wpAny_mono (wpAny_comprehension_free (use := some (assign (.Name y py) X.env)) (Q := fun _ s' => SP X pins D0 .next s') rfl hs ecl S.kind S.loc
    (thn (hit pins s σ H _ I h) fun v s1 h1 => thn h1 fun itv s2 h2 => ?_)) (fun _ s' hq => wpAny_pure (wpAny_pure hq)) fun _ _ e => e)
  obtain ⟨it, fp, tn, J, H2, e, I2, T, st2, f2, W, ⟨m0, w0⟩, turn⟩ := h2
  subst e
  refine cmp_block S F hc hg hk hi he I2 T st2 f2 w0 (Fin := fun ys H' => ∀ D, H' D = none → D0.nx (σ.set i (some (.ref D))) (upd H' D (.lst ys))) turn hcl hcf
    (RR := fun acc C => compPost (model X.prog X.w) X.A X.xe (some (assign (.Name y py) X.env)) (fun _ s' => SP X pins D0 .next s') acc C) ?_
  intro D C s' its n ys H' σ' hD hC hDC J' rv hz fin
  obtain ⟨hn, I'⟩ := cmp_back I2 f2 J' rv hz hD
  obtain ⟨m, hm, _⟩ := J'.loc
  show wpAny _ _ (assign (.Name y py) X.env (.ref D)) _ _ s'
  refine wpAny_assign_Name (store_ok2 I' hN hi' hx (v := .ref D) rfl (fun s9 I9 ⟨a, sba, ha⟩ => ?_) hf)
  have hCa : C ≠ a := by
    rcases ha with z | z
    · rw [z]; exact Nat.ne_of_gt (Nat.lt_of_lt_of_le I2.lt hC)
    · obtain ⟨v, q⟩ := I2.cell y a z
      exact fun z => absurd (Nat.lt_of_lt_of_le q.lt (by rw [← z]; exact hC)) (Nat.lt_irrefl _)
  exact ⟨m, hm.sameBut sba hCa, fun h' sb => ⟨_, _, cmp_off I2 hC hDC J' I9 sb, fin D hn⟩⟩
end

noncomputable def cmpOk (sc scope : Scope) (NX N : List Str) (k : Nat) (fr : List Nat) : Bool :=
  scope.names.all (fun p => p.2 != .cell) && (scope.names.all (fun p => p.2 != .local || scope.names.lookup p.1 == some .local) && (scope.names.all (fun p => p.2 != .free || sc.names.lookup p.1 == some .cell) &&
    (decide N.Nodup && (N.length == k + fr.length && (fr.zip (N.drop k)).all fun q => NX[q.1]? == some q.2 && scope.names.lookup q.2 == some .free))))
theorem cmpS {X : Cx} {sc scope : Scope} {NX N : List Str} {k : Nat} {fr : List Nat} (hX : X.env.scope = sc) (hk : scope.kind = .function) (h : cmpOk sc scope NX N k fr = true) : CmpScope X N scope := by
  unfold cmpOk at h
  simp only [Bool.and_eq_true, List.all_eq_true, decide_eq_true_eq] at h
  obtain ⟨h1, h2, h3, h4, h5, h6⟩ := h
  have f2 : ∀ y, (y, NameKind.free) ∈ scope.names → X.env.kindOf y = some .cell := fun y hy => by
    have := h3 _ hy
    show X.env.scope.names.lookup y = some .cell
    rw [hX]
    simpa using this
  refine ⟨hk, fun y hy => by simpa using h1 y hy, fun y hy e => ?_, fun y e => f2 y (PySem.mem_of_lookup e), f2, h4, fun y e => PySem.mem_of_lookup e⟩
  have := h2 y hy
  rw [e] at this
  simpa using this
theorem cmpF {X : Cx} {sc scope : Scope} {NX N : List Str} {k : Nat} {fr : List Nat} (hN : X.N = NX) (h : cmpOk sc scope NX N k fr = true) : CmpFree X N scope k fr := by
  unfold cmpOk at h
  simp only [Bool.and_eq_true, List.all_eq_true, decide_eq_true_eq] at h
  obtain ⟨h1, h2, h3, h4, h5, h6⟩ := h
  refine ⟨by simpa using h5, fun j i y e1 e2 => ?_⟩
  have hm : (i, y) ∈ fr.zip (N.drop k) := by
    refine List.mem_of_getElem? (i := j) ?_
    rw [List.getElem?_zip_eq_some]
    exact ⟨e1, by rw [List.getElem?_drop]; exact e2⟩
  have := h6 _ hm
  rw [hN]
  simpa using this

section
variable {X : Cx} {elt iter : Expr} {ifs : List Expr} {scope : Scope} {pos px : Pos} {wi : TI} {tc : TT} {te : TE} {x : Str}
theorem cmp_nd {sc scope : Scope} {NX N : List Str} {k : Nat} {fr : List Nat} (h : cmpOk sc scope NX N k fr = true) : N.Nodup := by
  unfold cmpOk at h
  simp only [Bool.and_eq_true, decide_eq_true_eq] at h
  exact h.2.2.2.1
theorem pe_cmp1 (sc : Scope) (NX : List Str) (fs : List Str) (fr : List Nat) (hc : X.calm = true) (hit : PI X (.Name x px) iter wi) (hi : ∀ cl C s H fp, PF (X.cmp (x :: fs) scope cl C s H fp) ifs tc) (he : ∀ cl C s H fp, PE (X.cmp (x :: fs) scope cl C s H fp) elt te)
    (ok : cmpOk sc scope NX (x :: fs) 1 fr = true) (hX : X.env.scope = sc := by rfl) (hN : X.N = NX := by rfl) (hk : scope.kind = .function := by rfl) (hx : scope.names.lookup x = some .local := by rfl)
    (hs : ∀ x, foldedSetIterable iter X.env x = pure x := by intro _; rfl) : PE X (.ListComp elt [⟨.Name x px, iter, ifs, 0⟩] scope pos) (tComp 1 fr wi (gName 0) tc te) :=
  pe_comp (cmpS hX hk ok) (cmpF hN ok) hc hit (fun cl C s H fp => pg_name (i := 0) (cmp_nd ok) rfl (Or.inl (lookup_relabel_local hx)) (.inr (lookup_relabel_local hx))) (gk_name (by decide)) hi he hs
theorem ps_cmp1 (sc : Scope) (NX : List Str) (fs : List Str) (fr : List Nat) {i : Nat} {y : Str} {py spos : Pos} (hNd : X.N.Nodup) (hi' : X.N[i]? = some y) (hy : Loc X.env.scope y) (hc : X.calm = true) (hit : PI X (.Name x px) iter wi)
    (hi : ∀ cl C s H fp, PF (X.cmp (x :: fs) scope cl C s H fp) ifs tc) (he : ∀ cl C s H fp, PE (X.cmp (x :: fs) scope cl C s H fp) elt te)
    (ok : cmpOk sc scope NX (x :: fs) 1 fr = true) (hsw : swapsWith (.ListComp elt [⟨.Name x px, iter, ifs, 0⟩] scope pos) (some (.Name y py)) spos.line X.env = pure true)
    (hX : X.env.scope = sc := by rfl) (hN : X.N = NX := by rfl) (hk : scope.kind = .function := by rfl) (hx : scope.names.lookup x = some .local := by rfl)
    (hs : ∀ x, foldedSetIterable iter X.env x = pure x := by intro _; rfl) (hf : X.fn y = true ∨ X.env.scope.names.lookup y = some .local := by first | exact .inl rfl | exact .inr rfl | assumption) :
    PS X (.Assign [.Name y py] (.ListComp elt [⟨.Name x px, iter, ifs, 0⟩] scope pos) spos) (tAsg (tComp 1 fr wi (gName 0) tc te) (gName i)) :=
  ps_comp hNd hi' hy (cmpS hX hk ok) (cmpF hN ok) hc hit (fun cl C s H fp => pg_name (i := 0) (cmp_nd ok) rfl (Or.inl (lookup_relabel_local hx)) (.inr (lookup_relabel_local hx))) (gk_name (by decide)) hi he hsw hs hf
end

theorem comp_range {lo : Int} {n : Nat} {G : V → Hp → (List V → Hp → Prop) → List V → Prop} {Fin : List V → Hp → Prop} {H : Hp} (Pv : Nat → List V → Hp → Prop) (h0 : Pv 0 [] H)
    (hs : ∀ i ys H, i < n → Pv i ys H → ys.length < sizeLine ∧ G (.int (lo + i)) H (Pv (i + 1)) ys) (hd : ∀ ys H, Pv n ys H → Fin ys H) :
    ∃ W : Nat → Nat → List V → Hp → Prop, (∃ m, W 0 m [] H) ∧ ∀ i m ys H, W i m ys H →
      ((Itr lo n).stop i H ∧ Fin ys H) ∨ ((Itr lo n).go i H ∧ ys.length < sizeLine ∧ ∃ Nx : List V → Hp → Prop, (∀ ys' H', Nx ys' H' → ∃ m', m' < m ∧ W (i + 1) m' ys' H') ∧ ∀ x H', (Itr lo n).yld i H x H' → G x H' Nx ys) := by
  refine ⟨fun i m ys H => m = n - i ∧ i ≤ n ∧ Pv i ys H, ⟨n, by simp, Nat.zero_le _, h0⟩, ?_⟩
  rintro i m ys H ⟨rfl, hi, p⟩
  by_cases hlt : i < n
  · obtain ⟨a1, a2⟩ := hs i ys H hlt p
    refine .inr ⟨hlt, a1, Pv (i + 1), fun ys' H' p' => ⟨n - (i + 1), by lia, rfl, hlt, p'⟩, fun x H' y => ?_⟩
    obtain ⟨e, y⟩ := y
    subst e y
    exact a2
  · have e : i = n := by lia
    subst e
    exact .inl ⟨Nat.le_refl _, hd ys H p⟩
theorem comp_list {K : PySem.W.Frag} {a : Addr} {xs : List V} {G : V → Hp → (List V → Hp → Prop) → List V → Prop} {Fin : List V → Hp → Prop} {H : Hp} (Pv : Nat → List V → Hp → Prop) (h0 : Pv 0 [] H) (hl : ∀ i ys H, i ≤ xs.length → Pv i ys H → SqL K H a xs)
    (hs : ∀ i x ys H, xs[i]? = some x → Pv i ys H → ys.length < sizeLine ∧ G x H (Pv (i + 1)) ys) (hd : ∀ ys H, Pv xs.length ys H → Fin ys H) :
    ∃ W : Nat → Nat → List V → Hp → Prop, (∃ m, W 0 m [] H) ∧ ∀ i m ys H, W i m ys H →
      ((Itl K a).stop i H ∧ Fin ys H) ∨ ((Itl K a).go i H ∧ ys.length < sizeLine ∧ ∃ Nx : List V → Hp → Prop, (∀ ys' H', Nx ys' H' → ∃ m', m' < m ∧ W (i + 1) m' ys' H') ∧ ∀ x H', (Itl K a).yld i H x H' → G x H' Nx ys) := by
  refine ⟨fun i m ys H => m = xs.length - i ∧ i ≤ xs.length ∧ Pv i ys H, ⟨xs.length, by simp, Nat.zero_le _, h0⟩, ?_⟩
  rintro i m ys H ⟨rfl, hi, p⟩
  have q := hl i ys H hi p
  by_cases hlt : i < xs.length
  · obtain ⟨a1, a2⟩ := hs i xs[i] ys H (by simp [hlt]) p
    refine .inr ⟨⟨xs, xs[i], q, by simp [hlt]⟩, a1, Pv (i + 1), fun ys' H' p' => ⟨xs.length - (i + 1), by lia, rfl, hlt, p'⟩, fun x H' y => ?_⟩
    obtain ⟨e, y⟩ := y
    subst e
    have hx := y xs q
    rw [show xs[i]? = some xs[i] by simp [hlt]] at hx
    cases hx
    exact a2
  · have e : i = xs.length := by lia
    subst e
    exact .inl ⟨⟨xs, q, Nat.le_refl _⟩, hd ys H p⟩
end L2
namespace L2
open PySem PySem.Spec PyProof.Rows

section
variable {X : Cx}
theorem call_isi : CallR X (.builtin "isinstance") (fun xs H Q => ∃ x t c b, xs = [x, .ty c] ∧ TyOf X.K H x t ∧ PySem.W.kitOne X.K t (.type c) = some b ∧ Q (.bl b) H) := by
  intro pins s σ H xs us Q I r h
  obtain ⟨x, t, c, b, rfl, ty, e, q⟩ := h
  obtain ⟨u, v, rfl, rx, ry⟩ := vals2 r
  cases ry
  exact isinst_ok I rx ty e fun tk => ⟨.bl b, H, I.tok tk, rfl, q⟩

theorem seen {pins : List (Addr × Obj)} {σ : St} {H : Hp} {s : Shared} {l : Addr} {h' : Heap} {tk : Nat} (I : Inv X pins σ H s) (hk : ∀ b o, b ∉ [s.heap.objs.size] → (s.heap.push { cls := .type "list_iterator", data := .fields #[.ref l, .int 0 0] }).get? b = some o → h'.get? b = some o) :
    Inv X pins σ H { s with heap := h', toks := tk } := I.kept (old_kept hk)

theorem all_range {bs : List Bool} : ((List.range bs.length).all fun i => (bs[i]?).getD true) = bs.all id := by
  induction bs with
  | nil => rfl
  | cons b r ih =>
    rw [List.length_cons, List.range_succ_eq_map, List.all_cons, List.all_map, List.all_cons]
    congr 1
theorem call_all (hc : X.calm = true) : CallR X (.builtin "all") (fun xs H Q => ∃ (p : Addr) (bs : List Bool), xs = [.ref p] ∧ SqL X.K H p (bs.map V.bl) ∧ Q (.bl (bs.all id)) H) := by
  intro pins s σ H xs us Q I r h
  obtain ⟨p, bs, rfl, hq, q⟩ := h
  obtain ⟨u, rfl, rx⟩ := vals1 r
  cases rx
  obtain ⟨its, rv, pl, hz⟩ := I.list hq
  have hl := pl.isList
  have hlt : p < s.heap.objs.size := by obtain ⟨_, e, _⟩ := hl; exact Heap.lt_size e
  have hn : its.toArray.size = bs.length := by rw [List.size_toArray, ← rv.length, List.length_map]
  refine call_all_walk (wpAny_pyIter_list hl ?_)
  refine ⟨_, _, _, _, _, _, fun i => (bs[i]?).getD true, rfl, Walks.list (A := X.A.in1) (I.ok.hd hc) s.heap.objs.size p (Nat.ne_of_lt hlt) its.toArray, ⟨⟨_, Heap.get?_push_size _ rfl, rfl, rfl⟩, hl.push _⟩, ?_, fun h' tk hk => ?_⟩
  · intro i v s' Q' E' hP hQ
    have hv : its[i]? = some v := by simpa using hP
    cases eb : bs[i]? with
    | none =>
      have := rv.none_of (i := i) (by rw [List.getElem?_map, eb]; rfl)
      rw [this] at hv; cases hv
    | some b =>
      obtain ⟨u, hu, ru⟩ := rv.get (i := i) (x := .bl b) (by rw [List.getElem?_map, eb]; rfl)
      rw [hu] at hv; cases hv
      cases ru
      refine wpAny_truthy_bool ?_
      have e : (bs[i]?).getD true = b := by rw [eb]; rfl
      rw [← e]; exact hQ
  · rw [hn, all_range]
    exact ⟨.bl _, H, (show Inv X pins σ H { s with heap := h', toks := tk } from seen I hk), rfl, q⟩

theorem pre_take (ns : List Int) : ∀ k, k ≤ ns.length → preSum (fun i => (ns[i]?).getD 0) k = (ns.take k).sum
  | 0, _ => by simp [preSum]
  | k + 1, h => by
    have e : ns[k]? = some (ns[k]'(by lia)) := by simp
    rw [preSum, pre_take ns k (by lia), List.take_add_one, e, List.sum_append]
    simp
theorem sum_bound {B : Int} : ∀ (ns : List Int), (∀ n ∈ ns, -B ≤ n ∧ n ≤ B) → -(ns.length * B) ≤ ns.sum ∧ ns.sum ≤ ns.length * B
  | [], _ => by simp
  | n :: r, h => by
    have h1 := h n (by simp)
    have h2 := sum_bound r fun m hm => h m (List.mem_cons_of_mem _ hm)
    rw [List.sum_cons, List.length_cons]
    have e : ((r.length + 1 : Nat) : Int) * B = r.length * B + B := by rw [Int.natCast_add, Int.add_mul]; simp
    lia
theorem call_sumL (hc : X.calm = true) : CallR X (.builtin "sum") (fun xs H Q => ∃ (p : Addr) (ns : List Int), xs = [.ref p] ∧ SqL X.K H p (ns.map V.int) ∧ (ns.length ≤ 1000 ∧ ∀ n ∈ ns, -1000000000 ≤ n ∧ n ≤ 1000000000) ∧ Q (.int ns.sum) H) := by
  intro pins s σ H xs us Q I r h
  obtain ⟨p, ns, rfl, hq, ⟨hb0, hb⟩, q⟩ := h
  obtain ⟨u, rfl, rx⟩ := vals1 r
  cases rx
  obtain ⟨its, rv, pl, hz⟩ := I.list hq
  have hl := pl.isList
  have hlt : p < s.heap.objs.size := by obtain ⟨_, e, _⟩ := hl; exact Heap.lt_size e
  have hn : its.toArray.size = ns.length := by rw [List.size_toArray, ← rv.length, List.length_map]
  refine call_sum_walk (wpAny_pyIter_list hl ?_)
  refine ⟨_, _, _, _, _, _, fun i => (ns[i]?).getD 0, rfl, Walks.list (A := X.A.in1) (I.ok.hd hc) s.heap.objs.size p (Nat.ne_of_lt hlt) its.toArray, ⟨⟨_, Heap.get?_push_size _ rfl, rfl, rfl⟩, hl.push _⟩, fun b hb' => ?_, fun i v hP => ?_, fun j hj => ?_, fun h' tk t' hk => ?_⟩
  · show b < (s.heap.push _).objs.size
    rw [Heap.size_push]
    rcases List.mem_cons.mp hb' with rfl | hb'
    · exact Nat.lt_succ_self _
    · have e : b = p := by simpa using hb'
      rw [e]; exact Nat.lt_succ_of_lt hlt
  · have hv : its[i]? = some v := by simpa using hP
    cases eb : ns[i]? with
    | none =>
      have := rv.none_of (i := i) (by rw [List.getElem?_map, eb]; rfl)
      rw [this] at hv; cases hv
    | some b =>
      obtain ⟨u, hu, ru⟩ := rv.get (i := i) (x := .int b) (by rw [List.getElem?_map, eb]; rfl)
      rw [hu] at hv; cases hv
      obtain ⟨t, rfl⟩ := ru
      exact ⟨t, by simp [eb]⟩
  · rw [hn] at hj
    have e : ns[j]? = some ns[j] := by simp [hj]
    have b1 := hb ns[j] (List.getElem_mem hj)
    have b2 := sum_bound (B := 1000000000) (ns.take (j + 1)) fun m hm => hb m (List.mem_of_mem_take hm)
    rw [pre_take ns (j + 1) (by lia)]
    have e3 : (ns.take (j + 1)).length = j + 1 := by rw [List.length_take]; lia
    rw [e3] at b2
    refine ⟨⟨?_, ?_⟩, ?_, ?_⟩
    · show _ ≤ (ns[j]?).getD 0
      rw [e]; show _ ≤ ns[j]; lia
    · show (ns[j]?).getD 0 < _
      rw [e]; show ns[j] < _; lia
    · lia
    · lia
  · rw [hn, pre_take ns ns.length (Nat.le_refl _), List.take_length]
    exact ⟨.int _, H, (show Inv X pins σ H { s with heap := h', toks := tk } from seen I hk), ⟨_, rfl⟩, q⟩

noncomputable def DatV (P : Program) (w : World) (H : Hp) (x : V) (d : PyData) : Prop := ∀ (h : Heap) (v : Value), HOk P w H h → RelV x v → ∃ as, Reads h v d as
section
variable {P : Program} {w : World} {H : Hp}
theorem datB (b : Bool) : DatV P w H (.bl b) (.bool b) := fun h v _ r => by cases r; exact ⟨_, .bool b⟩
theorem datS (x : Str) : DatV P w H (.str x) (.str x) := fun h v _ r => by obtain ⟨t, rfl⟩ := r; exact ⟨_, .str x t⟩
theorem dats {h : Heap} (ok : HOk P w H h) {xs : List V} {its : List Value} {ds : List PyData} (a : Vals xs its) (b : Paired (DatV P w H) xs ds) : ∃ as, ReadsAll h its ds as := by
  induction a generalizing ds with
  | nil => cases b; exact ⟨_, .nil⟩
  | cons r t ih =>
    cases b with
    | cons q u =>
      obtain ⟨as, h1⟩ := q _ _ ok r
      obtain ⟨bs, h2⟩ := ih u
      exact ⟨_, .cons h1 h2⟩
theorem datL {a : Addr} {xs : List V} {ds : List PyData} (e : H a = some (.lst xs)) (r : Paired (DatV P w H) xs ds) : DatV P w H (.ref a) (.list ds) := fun h v ok rv => by
  cases rv
  obtain ⟨_, its, n, rs, e1⟩ := ok a _ e
  obtain ⟨as, h1⟩ := dats ok rs r
  exact ⟨_, .list e1 rfl rfl (by simpa using h1)⟩
end
noncomputable def rEqD (P : Program) (w : World) (neg : Bool) : R2 := fun x y H Q => ∃ dx dy, DatV P w H x dx ∧ DatV P w H y dy ∧ (dx.canLay0 = true ∧ dy.canLay0 = true ∧ dx.depth ≤ 60) ∧ Q (.bl (if neg = true then !PyData.eqv dx dy else PyData.eqv dx dy)) H
theorem op_eqD (hu : X.A.units + 64 < cLine) : OpR X (compareOp .Eq) (rEqD X.prog X.w false) := by
  intro pins s σ H x y v u Q I rx ry h
  obtain ⟨dx, dy, h1, h2, ⟨c1, c2, c3⟩, q⟩ := h
  obtain ⟨as, r1⟩ := h1 _ _ I.hok rx
  obtain ⟨bs, r2⟩ := h2 _ _ I.hok ry
  refine SeqAt.compareEq_reads r1 r2 c1 c2 ?_ ⟨.bl _, H, I, rfl, q⟩
  have : min dx.depth dy.depth ≤ dx.depth := Nat.min_le_left _ _
  lia
theorem op_neD (hu : X.A.units + 64 < cLine) : OpR X (compareOp .NotEq) (rEqD X.prog X.w true) := by
  intro pins s σ H x y v u Q I rx ry h
  obtain ⟨dx, dy, h1, h2, ⟨c1, c2, c3⟩, q⟩ := h
  obtain ⟨as, r1⟩ := h1 _ _ I.hok rx
  obtain ⟨bs, r2⟩ := h2 _ _ I.hok ry
  refine SeqAt.compareNe_reads r1 r2 c1 c2 ?_ ⟨.bl _, H, I, rfl, q⟩
  have : min dx.depth dy.depth ≤ dx.depth := Nat.min_le_left _ _
  lia
theorem eq_self {P : Program} {w : World} {neg : Bool} {x y : V} {H : Hp} {Q : VK} {d : PyData} (h1 : DatV P w H x d) (h2 : DatV P w H y d) (c1 : d.canLay0 = true) (c2 : d.depth ≤ 60) (q : Q (.bl (!neg)) H) : rEqD P w neg x y H Q := by
  refine ⟨d, d, h1, h2, ⟨c1, c1, c2⟩, ?_⟩
  rw [SeqAt.eqv_refl d c1]
  cases neg <;> exact q

end
end L2

namespace L2
open PySem PySem.Spec PyProof.Rows
section
variable {prog : Program} {w : World} {A : Around} {s : Shared}
end
section
variable {X : Cx} {e : Expr} {te : TE}
end
end L2
namespace L2
open PySem PySem.Spec PyProof.Rows
section
variable {X : Cx} {pins : List (Addr × Obj)} {σ : St} {H : Hp} {s : Shared} {h' : Heap}
end

section
variable {X : Cx} {l l2 : Expr} {tl tl2 : TE} {elts : List Expr} {p pos tpos : Pos}
end

end L2
namespace Ma
theorem sum_le6 : ∀ (ps : List Nat), (∀ p ∈ ps, 1 ≤ p ∧ p ≤ 6) → ps.length ≤ ps.sum ∧ ps.sum ≤ 6 * ps.length
  | [], _ => by simp
  | p :: r, h => by
    have h1 := h p (by simp)
    have h2 := sum_le6 r fun q hq => h q (List.mem_cons_of_mem _ hq)
    simp only [List.sum_cons, List.length_cons]
    lia
theorem sum_cast : ∀ (ps : List Nat), (ps.map fun (p : Nat) => (p : Int)).sum = ((ps.sum : Nat) : Int)
  | [] => rfl
  | p :: r => by simp [sum_cast r]
end Ma
namespace Ma
end Ma
namespace Ma
end Ma
namespace Ma
noncomputable def maxL : List Int → Int
  | [] => 0
  | [x] => x
  | x :: r => max x (maxL r)
noncomputable def minL : List Int → Int
  | [] => 0
  | [x] => x
  | x :: r => min x (minL r)
theorem maxL_spec : ∀ ns : List Int, 0 < ns.length → maxL ns ∈ ns ∧ ∀ n ∈ ns, n ≤ maxL ns
  | [], h => by simp at h
  | [x], _ => by simp [maxL]
  | x :: y :: r, _ => by
    have ih := maxL_spec (y :: r) (by simp)
    have e : maxL (x :: y :: r) = max x (maxL (y :: r)) := rfl
    rw [e]
    refine ⟨?_, fun n hn => ?_⟩
    · rcases Int.le_total x (maxL (y :: r)) with h | h
      · rw [Int.max_eq_right h]; exact List.mem_cons_of_mem _ ih.1
      · rw [Int.max_eq_left h]; simp
    · rcases List.mem_cons.mp hn with rfl | hn
      · exact Int.le_max_left _ _
      · exact Int.le_trans (ih.2 n hn) (Int.le_max_right _ _)
theorem minL_spec : ∀ ns : List Int, 0 < ns.length → minL ns ∈ ns ∧ ∀ n ∈ ns, minL ns ≤ n
  | [], h => by simp at h
  | [x], _ => by simp [minL]
  | x :: y :: r, _ => by
    have ih := minL_spec (y :: r) (by simp)
    have e : minL (x :: y :: r) = min x (minL (y :: r)) := rfl
    rw [e]
    refine ⟨?_, fun n hn => ?_⟩
    · rcases Int.le_total x (minL (y :: r)) with h | h
      · rw [Int.min_eq_left h]; simp
      · rw [Int.min_eq_right h]; exact List.mem_cons_of_mem _ ih.1
    · rcases List.mem_cons.mp hn with rfl | hn
      · exact Int.min_le_left _ _
      · exact Int.le_trans (Int.min_le_right _ _) (ih.2 n hn)
theorem maxL_uniq {ns : List Int} {m : Int} (h1 : m ∈ ns) (h2 : ∀ n ∈ ns, n ≤ m) : m = maxL ns := by
  have h := maxL_spec ns (List.length_pos_of_mem h1)
  exact Int.le_antisymm (h.2 m h1) (h2 _ h.1)
theorem minL_uniq {ns : List Int} {m : Int} (h1 : m ∈ ns) (h2 : ∀ n ∈ ns, m ≤ n) : m = minL ns := by
  have h := minL_spec ns (List.length_pos_of_mem h1)
  exact Int.le_antisymm (h2 _ h.1) (h.2 m h1)
end Ma
namespace L2
open PySem PySem.Spec PyProof.Rows

structure Def (P : Program) (w : World) (K : PySem.W.Frag) (mg : Str → Option Value) (base : Heap) (k : Nat) (x : Str) (ps : List Str) (sp : Sp) : Prop where
  ex : ∃ f fd, FnOk P w K mg base CX0 k f fd ps sp ∧ mg x = some (.ref f) ∧ PySem.W.keepIn K (.ref f) = true ∧ Binds K fd ps []
section
variable {X : Cx} {k : Nat} {x : Str} {ps : List Str} {sp : Sp} {e a b c : Expr} {es : List Expr} {t : TA} {ta tb tc te : TE} {p pos : Pos}
theorem pe_fn (D : Def X.prog X.w X.K X.mg X.base k x ps sp) (hr : Room k X.A) (hg : Gl X x) (ha : PA X (e :: es) t) (hdb : (x == ("__debug__" : Str)) = false := by decide)
    (he : starEach (e :: es) X.env = (false, eval e X.env) :: starEach es X.env := by rfl) (hpl : (backTo pos (starEach es X.env)).any (·.1) = false := by rfl) : PE X (.Call (.Name x p) (e :: es) [] pos) (tCall sp [] E0 t) := by
  obtain ⟨f, fd, G, h1, h2, h3⟩ := D.ex
  exact pe_call G hr hg h1 h2 h3 .nil pass0 ha hdb he hpl
theorem ixl (ha : PE X a ta) (hb : PE X b tb) (hs : PlainIx b := by intro _ _; rfl) : PE X (.Subscript a b pos) (tOp (rIxL X.K) ta tb) := pe_ix ix_list ha hb hs
theorem ixt (ha : PE X a ta) (hb : PE X b tb) (hs : PlainIx b := by intro _ _; rfl) : PE X (.Subscript a b pos) (tOp (rIxT X.K) ta tb) := pe_ix ix_tup ha hb hs
theorem lenS (hm : X.mg "len" = none) (hg : Gl X "len") (ha : PE X a ta) (hs : starEach [a] X.env = [(false, eval a X.env)] := by rfl) :
    PE X (.Call (.Name "len" p) [a] [] pos) (tCB (fun xs H Q => ∃ p ys, xs = [.ref p] ∧ (SqL X.K H p ys ∨ SqT X.K H p ys) ∧ Q (.int ys.length) H) (tCons ta tNil)) := pe_callB call_len_seq hg hm PySem.boot_len (pa_cons ha pa_nil hs) (he := hs)
theorem op_neDP (P : Program) (w : World) (hP : X.prog = P) (hw : X.w = w) (hu : X.A.units + 64 < cLine) : OpR X (compareOp .NotEq) (rEqD P w true) := by
  subst hP hw
  exact op_neD hu
theorem pe_ty {y : Str} {T : String} (hm : X.mg y = none) (hv : bootBuiltins y = some (.type T)) (hg : Gl X y := by rfl) (hn : y ≠ "__name__" := by decide) (hd : (y == ("__debug__" : Str)) = false := by decide) : PE X (.Name y pos) (tC (.ty T)) :=
  pe_bltn (v := .ty T) hg hm hv rfl hn hd
theorem r_ixl {K : PySem.W.Frag} {H : Hp} {q : Addr} {xs : List V} {i : Int} {v : V} {Q : VK} (h : H q = some (.lst xs)) (e : atI xs i = some v) (k : Q v H) : rIxL K (.ref q) (.int i) H Q := ⟨q, xs, i, v, rfl, rfl, SqL.of h, e, k⟩
theorem at_all {xs : List V} {i : Int} {Pr : V → Prop} (h0 : 0 ≤ i) (h1 : i < xs.length) (h : ∀ x ∈ xs, Pr x) : ∃ v, atI xs i = some v ∧ Pr v := by
  obtain ⟨j, rfl⟩ : ∃ j : Nat, i = j := ⟨i.toNat, by lia⟩
  have hj : j < xs.length := by lia
  exact ⟨xs[j], atI_nat (by simp [hj]), h _ (List.getElem_mem hj)⟩
end
end L2

namespace Hv
open PySem L2

theorem sz {n : Nat} (h : n ≤ 1000000) : n ≤ sizeLine := Nat.le_trans h (by decide)
theorem szl {n : Nat} (h : n ≤ 1000000) : n < sizeLine := Nat.lt_of_le_of_lt h (by decide)

noncomputable def Kp (fp : List Addr) (H H' : Hp) : Prop := ∀ b o, H b = some o → b ∉ fp → H' b = some o
theorem Kp.refl {fp : List Addr} {H : Hp} : Kp fp H H := fun _ _ h _ => h
theorem Kp.trans {fp : List Addr} {H H1 H2 : Hp} (a : Kp fp H H1) (b : Kp fp H1 H2) : Kp fp H H2 := fun c o h n => b c o (a c o h n) n
theorem Kp.of {fp : List Addr} {H H' : Hp} (a : Same H H') : Kp fp H H' := fun c o h _ => a c o h
theorem Kp.same {fp : List Addr} {H H1 H2 : Hp} (a : Kp fp H H1) (b : Same H1 H2) : Kp fp H H2 := fun c o h n => b c o (a c o h n)
theorem same_upd {H : Hp} {a : Addr} {o : HO} (h : H a = none) : Same H (upd H a o) := fun b u e => by rw [upd_ne (ne_of_none e h)]; exact e
theorem same_upd2 {H H' : Hp} {a : Addr} {o : HO} (s : Same H H') (h : H a = none) : Same H (upd H' a o) := fun b u e => by rw [upd_ne (ne_of_none e h)]; exact s b u e
theorem kp_upd {fp : List Addr} {H H' : Hp} {a : Addr} {o : HO} (s : Kp fp H H') (h : a ∈ fp ∨ H a = none) : Kp fp H (upd H' a o) := fun b u e n => by
  have : b ≠ a := by
    rcases h with h | h
    · exact fun z => n (z ▸ h)
    · exact ne_of_none e h
  rw [upd_ne this]; exact s b u e n

structure FrOk (b : Nat) (ps : List Nat) (ws : List Int) : Prop where
  b2 : 2 ≤ b
  b16 : b ≤ 16
  l2 : 2 ≤ ps.length
  l4 : ps.length ≤ 4
  pr : ∀ p ∈ ps, 1 ≤ p ∧ p ≤ 6
  wl : ws.length = ps.sum
  wr : ∀ x ∈ ws, -9 ≤ x ∧ x ≤ 9
noncomputable abbrev natV (ps : List Nat) : List V := ps.map fun (p : Nat) => V.int (p : Int)
theorem natV_eq (ps : List Nat) : natV ps = (ps.map fun (p : Nat) => (p : Int)).map V.int := by simp [natV]
structure FrAt (H : Hp) (f a c : Addr) (b : Nat) (ps : List Nat) (ws : List Int) : Prop where
  tp : H f = some (.tup [.int b, .ref a, .ref c])
  hp : H a = some (.lst (natV ps))
  hw : H c = some (.lst (ws.map V.int))
  ok : FrOk b ps ws
theorem FrAt.keep {H H' : Hp} {f a c : Addr} {b : Nat} {ps : List Nat} {ws : List Int} (F : FrAt H f a c b ps ws) (s : Same H H') : FrAt H' f a c b ps ws := ⟨s _ _ F.tp, s _ _ F.hp, s _ _ F.hw, F.ok⟩
theorem FrOk.sum {b : Nat} {ps : List Nat} {ws : List Int} (F : FrOk b ps ws) : 2 ≤ ps.sum ∧ ps.sum ≤ 24 := by
  have h := Ma.sum_le6 ps F.pr
  have h1 := F.l2
  have h2 := F.l4
  lia

end Hv
namespace Hv
open PySem L2

theorem boot_isinstance : bootBuiltins "isinstance" = some (.builtin "isinstance") := PyProof.Rows.boot_isinstance
theorem boot_int : bootBuiltins "int" = some (.type "int") := PyProof.Rows.boot_int
theorem boot_bool : bootBuiltins "bool" = some (.type "bool") := PyProof.Rows.boot_bool
theorem boot_list : bootBuiltins "list" = some (.type "list") := PyProof.Rows.boot_list
theorem boot_tuple : bootBuiltins "tuple" = some (.type "tuple") := PyProof.Rows.boot_tuple
theorem boot_all : bootBuiltins "all" = some (.builtin "all") := PyProof.Rows.boot_all
theorem boot_sum : bootBuiltins "sum" = some (.builtin "sum") := PyProof.Rows.boot_sum
theorem boot_max : bootBuiltins "max" = some (.builtin "max") := PyProof.Rows.boot_max
theorem boot_min : bootBuiltins "min" = some (.builtin "min") := PyProof.Rows.boot_min
structure Txt (mg : Str → Option Value) : Prop where
  isi : mg "isinstance" = none
  int : mg "int" = none
  bool : mg "bool" = none
  list : mg "list" = none
  tuple : mg "tuple" = none
  all : mg "all" = none
  len : mg "len" = none
  sum : mg "sum" = none
  range : mg "range" = none
  max : mg "max" = none
  min : mg "min" = none
  rev : mg "reversed" = none
  zip : mg "zip" = none
  enum : mg "enumerate" = none

section
variable {K : PySem.W.Frag}
theorem kit_ii : PySem.W.kitOne K (.type "int") (.type "int") = some true := by kernel_rfl
theorem kit_ib : PySem.W.kitOne K (.type "int") (.type "bool") = some false := by kernel_rfl
theorem kit_bi : PySem.W.kitOne K (.type "bool") (.type "int") = some true := by kernel_rfl
theorem kit_bb : PySem.W.kitOne K (.type "bool") (.type "bool") = some true := by kernel_rfl
theorem kit_ni : PySem.W.kitOne K (.type "NoneType") (.type "int") = some false := by kernel_rfl
theorem kit_si : PySem.W.kitOne K (.type "str") (.type "int") = some false := by kernel_rfl
theorem kit_li : PySem.W.kitOne K (.type "list") (.type "int") = some false := by kernel_rfl
theorem kit_ti : PySem.W.kitOne K (.type "tuple") (.type "int") = some false := by kernel_rfl
theorem kit_di : PySem.W.kitOne K (.type "dict") (.type "int") = some false := by kernel_rfl
theorem kit_ll : PySem.W.kitOne K (.type "list") (.type "list") = some true := by kernel_rfl
theorem kit_tt : PySem.W.kitOne K (.type "tuple") (.type "tuple") = some true := by kernel_rfl
end

inductive Thing (H : Hp) : V → Prop where
  | non : Thing H .non
  | bl (b : Bool) : Thing H (.bl b)
  | int (i : Int) : Thing H (.int i)
  | str (x : Str) : Thing H (.str x)
  | lst {a : Addr} {xs : List V} (e : H a = some (.lst xs)) : Thing H (.ref a)
  | tup {a : Addr} {xs : List V} (e : H a = some (.tup xs)) : Thing H (.ref a)
  | dK {a : Addr} {kvs : List (Key × V)} (e : H a = some (.dK kvs)) : Thing H (.ref a)
theorem Thing.keep {H H' : Hp} {v : V} (t : Thing H v) (s : Same H H') : Thing H' v := by
  cases t with
  | non => exact .non
  | bl b => exact .bl b
  | int i => exact .int i
  | str x => exact .str x
  | lst e => exact .lst (s _ _ e)
  | tup e => exact .tup (s _ _ e)
  | dK e => exact .dK (s _ _ e)

noncomputable def isIntV : V → Bool
  | .int _ => true
  | _ => false
noncomputable def betw (v : V) (lo hi : Int) : Bool := match v with
  | .int i => decide (lo ≤ i) && decide (i ≤ hi)
  | _ => false
noncomputable def spWhole : Sp := fun vs H Q _ => ∃ v, vs = [v] ∧ Thing H v ∧ Q (.bl (isIntV v)) H
noncomputable def spBetw : Sp := fun vs H Q _ => ∃ v lo hi, vs = [v, .int lo, .int hi] ∧ Thing H v ∧ Q (.bl (betw v lo hi)) H
noncomputable def spIsFrame : Sp := fun vs H Q _ => ∃ f a c b ps ws, vs = [.ref f] ∧ FrAt H f a c b ps ws ∧ ∀ H', Same H H' → Q (.bl true) H'
noncomputable def spNeedFrame : Sp := fun vs H Q _ => ∃ f a c b ps ws, vs = [.ref f] ∧ FrAt H f a c b ps ws ∧ ∀ H', Same H H' → Q .non H'
end Hv
namespace Hv
open PySem L2
noncomputable def top (i : Nat) : Stmt := PySem.Challenge.pw_likehalves_k39_texts_that_write_no_frame.main.body.getD i (.Pass ⟨0, 0, 0, 0⟩)
noncomputable abbrev sWhole : Stmt := top 13
noncomputable abbrev sBetw : Stmt := top 14
noncomputable abbrev sLBetw : Stmt := top 15
noncomputable abbrev sIsFrame : Stmt := top 16
noncomputable abbrev sNeedFrame : Stmt := top 17
noncomputable abbrev sWritten : Stmt := top 20
noncomputable abbrev sWrittenS : Stmt := top 21
noncomputable abbrev sJoinedBy : Stmt := top 22
noncomputable abbrev sShowFrame : Stmt := top 23
noncomputable abbrev sIsWriting : Stmt := top 24
noncomputable abbrev sFrameOr : Stmt := top 25
noncomputable abbrev sReadFrame : Stmt := top 26
noncomputable abbrev sCell : Stmt := top 28
noncomputable abbrev sMixed : Stmt := top 29
noncomputable abbrev sFrame : Stmt := top 30
noncomputable abbrev sLawWritten : Stmt := top 31
noncomputable abbrev sLawNumber : Stmt := top 32
noncomputable abbrev sLawWrites : Stmt := top 33
noncomputable abbrev sLawOdd : Stmt := top 34
noncomputable abbrev sLawGiven : Stmt := top 35
noncomputable abbrev sLawAsked : Stmt := top 36
noncomputable abbrev sLawBad : Stmt := top 37
noncomputable abbrev sLaw : Stmt := top 38
end Hv
namespace L2
open PySem PySem.Spec PyProof.Rows
section
variable {X : Cx}
theorem its_int {ns : List Int} {its : List Value} (rv : Vals (ns.map V.int) its) {i : Nat} {v : Value} (hv : its[i]? = some v) : ∃ n t, ns[i]? = some n ∧ v = .int n t := by
  cases eb : ns[i]? with
  | none =>
    have := rv.none_of (i := i) (by rw [List.getElem?_map, eb]; rfl)
    rw [this] at hv; cases hv
  | some b =>
    obtain ⟨u, hu, ru⟩ := rv.get (i := i) (x := .int b) (by rw [List.getElem?_map, eb]; rfl)
    rw [hu] at hv; cases hv
    obtain ⟨t, rfl⟩ := ru
    exact ⟨b, t, rfl, rfl⟩
theorem call_maxL (hc : X.calm = true) : CallR X (.builtin "max") (fun xs H Q => ∃ (p : Addr) (ns : List Int), xs = [.ref p] ∧ SqL X.K H p (ns.map V.int) ∧ 0 < ns.length ∧ Q (.int (Ma.maxL ns)) H) := by
  intro pins s σ H xs us Q I r h
  obtain ⟨p, ns, rfl, hq, hne, q⟩ := h
  obtain ⟨u, rfl, rx⟩ := vals1 r
  cases rx
  obtain ⟨its, rv, pl, hz⟩ := I.list hq
  have hl := pl.isList
  have hlt : p < s.heap.objs.size := by obtain ⟨_, e, _⟩ := hl; exact Heap.lt_size e
  have hn : its.toArray.size = ns.length := by rw [List.size_toArray, ← rv.length, List.length_map]
  have hval : ∀ (i : Nat) (v : Value), its.toArray[i]? = some v → ∃ t, v = .int ((fun i => (ns[i]?).getD 0) i) t := fun i v hP => by
    obtain ⟨n, t, e, rfl⟩ := its_int rv (i := i) (v := v) (by simpa using hP)
    exact ⟨t, by simp [e]⟩
  refine call_max_walk (wpAny_pyIter_list hl ?_)
  refine ⟨_, _, _, _, _, _, _, rfl, Walks.list (A := X.A.in1) (I.ok.hd hc) s.heap.objs.size p (Nat.ne_of_lt hlt) its.toArray, ⟨⟨_, Heap.get?_push_size _ rfl, rfl, rfl⟩, hl.push _⟩, fun b hb' => ?_, by lia, CmpOf.ints_gt (fun i => (ns[i]?).getD 0) hval, fun v h' tk hP hk => ?_⟩
  · show b < (s.heap.push _).objs.size
    rw [Heap.size_push]
    rcases List.mem_cons.mp hb' with rfl | hb'
    · exact Nat.lt_succ_self _
    · have e : b = p := by simpa using hb'
      rw [e]; exact Nat.lt_succ_of_lt hlt
  · rw [hn] at hP
    have ab := argBest_gt (fun i => (ns[i]?).getD 0) (ns.length - 1)
    obtain ⟨n, t, e, rfl⟩ := its_int rv (i := argBest (fun i j => decide ((ns[i]?).getD 0 > (ns[j]?).getD 0)) (ns.length - 1)) (v := v) (by simpa using hP)
    have em : n = Ma.maxL ns := Ma.maxL_uniq (List.mem_of_getElem? e) fun m hm => by
      obtain ⟨j, hj⟩ := List.getElem?_of_mem hm
      have hjl := (List.getElem?_eq_some_iff.mp hj).1
      have a2 := ab.2 j (by lia)
      simp only [hj, e, Option.getD_some] at a2
      exact a2
    subst em
    exact ⟨.int _, H, (show Inv X pins σ H { s with heap := h', toks := tk } from seen I hk), ⟨_, rfl⟩, q⟩
theorem call_minL (hc : X.calm = true) : CallR X (.builtin "min") (fun xs H Q => ∃ (p : Addr) (ns : List Int), xs = [.ref p] ∧ SqL X.K H p (ns.map V.int) ∧ 0 < ns.length ∧ Q (.int (Ma.minL ns)) H) := by
  intro pins s σ H xs us Q I r h
  obtain ⟨p, ns, rfl, hq, hne, q⟩ := h
  obtain ⟨u, rfl, rx⟩ := vals1 r
  cases rx
  obtain ⟨its, rv, pl, hz⟩ := I.list hq
  have hl := pl.isList
  have hlt : p < s.heap.objs.size := by obtain ⟨_, e, _⟩ := hl; exact Heap.lt_size e
  have hn : its.toArray.size = ns.length := by rw [List.size_toArray, ← rv.length, List.length_map]
  have hval : ∀ (i : Nat) (v : Value), its.toArray[i]? = some v → ∃ t, v = .int ((fun i => (ns[i]?).getD 0) i) t := fun i v hP => by
    obtain ⟨n, t, e, rfl⟩ := its_int rv (i := i) (v := v) (by simpa using hP)
    exact ⟨t, by simp [e]⟩
  refine call_min_walk (wpAny_pyIter_list hl ?_)
  refine ⟨_, _, _, _, _, _, _, rfl, Walks.list (A := X.A.in1) (I.ok.hd hc) s.heap.objs.size p (Nat.ne_of_lt hlt) its.toArray, ⟨⟨_, Heap.get?_push_size _ rfl, rfl, rfl⟩, hl.push _⟩, fun b hb' => ?_, by lia, CmpOf.ints_lt (fun i => (ns[i]?).getD 0) hval, fun v h' tk hP hk => ?_⟩
  · show b < (s.heap.push _).objs.size
    rw [Heap.size_push]
    rcases List.mem_cons.mp hb' with rfl | hb'
    · exact Nat.lt_succ_self _
    · have e : b = p := by simpa using hb'
      rw [e]; exact Nat.lt_succ_of_lt hlt
  · rw [hn] at hP
    have ab := argBest_lt (fun i => (ns[i]?).getD 0) (ns.length - 1)
    obtain ⟨n, t, e, rfl⟩ := its_int rv (i := argBest (fun i j => decide ((ns[i]?).getD 0 < (ns[j]?).getD 0)) (ns.length - 1)) (v := v) (by simpa using hP)
    have em : n = Ma.minL ns := Ma.minL_uniq (List.mem_of_getElem? e) fun m hm => by
      obtain ⟨j, hj⟩ := List.getElem?_of_mem hm
      have hjl := (List.getElem?_eq_some_iff.mp hj).1
      have a2 := ab.2 j (by lia)
      simp only [hj, e, Option.getD_some] at a2
      exact a2
    subst em
    exact ⟨.int _, H, (show Inv X pins σ H { s with heap := h', toks := tk } from seen I hk), ⟨_, rfl⟩, q⟩
end
end L2
namespace L2
open PySem PySem.Spec PyProof.Rows

section
variable {X : Cx} {e st : Expr} {te ts : TE} {pos p2 : Pos} {tg : Expr}
end
end L2
namespace L2
open PySem PySem.Spec PyProof.Rows

section
variable {κ : Type} [DecidableEq κ]
end


noncomputable abbrev KT (H : Hp) : List (List Key × V) → List (List Key × Addr × Value) → Prop := Paired fun p q => p.1 = q.1 ∧ H q.2.1 = some (.tup (p.1.map kV)) ∧ RelV p.2 q.2.2
section
variable {P : Program} {w : World} {H : Hp} {h : Heap} {a : Addr}
theorem rd_of {u : HO} (ok : HOk P w H h) (e : Rd H a u) : ObjOk P w H h a u := e.ok ok
theorem dk_rd {kvs : List (Key × V)} (ok : HOk P w H h) (e : Rd H a (.dK kvs)) : kvs.length ≤ sizeLine ∧ (a == sysModules) = false ∧ ∃ vs, KV kvs vs ∧ h.DictOf (mixKind P w) a vs :=
  show ObjOk P w H h a (.dK kvs) from rd_of ok e
theorem dk_of {kvs : List (Key × V)} (ok : HOk P w H h) (e : H a = some (.dK kvs)) : kvs.length ≤ sizeLine ∧ (a == sysModules) = false ∧ ∃ vs, KV kvs vs ∧ h.DictOf (mixKind P w) a vs := dk_rd ok (.inl e)
end

section
variable {X : Cx} {pins : List (Addr × Obj)} {σ : St} {H : Hp} {s : Shared} {a : Addr} {y v : V} {u r : Value} {o : Option V} {A : Around} {E : Value → Shared → Prop}

theorem Inv.big (I : Inv X pins σ H s) : sysModules < s.heap.objs.size := by
  have h : mainGlobals < s.heap.objs.size := (I.mod.glob.keeps I.bk).lt
  exact Nat.lt_trans (by decide) h

end

section
variable {X : Cx} {pins : List (Addr × Obj)} {σ : St} {H : Hp} {s : Shared} {a : Addr} {kvs : List (Key × V)} {k : Key} {u : Value} {A : Around} {E : Value → Shared → Prop}
end


section
variable {X : Cx} {o i e value : Expr} {pos pos' tpos : Pos} {td ty tv : TE}
end


theorem dk_empty {P : Program} {w : World} {H : Hp} (h : Heap) (hb : sysModules < h.objs.size) : ObjOk P w H (h.push { cls := .type "dict", data := .dict #[] }) h.objs.size (.dK []) :=
  ⟨Nat.zero_le _, beq_eq_false_iff_ne.mpr (Ne.symm (Nat.ne_of_lt hb)), [], .nil, Heap.DictOf.new h⟩
noncomputable def tDNewK : TE := fun _ H Q => ∀ p, H p = none → Q (.ref p) (upd H p (.dK []))
section
variable {X : Cx} {pos : Pos}
theorem pe_dnewK : PE X (.Dict [] [] pos) tDNewK := fun pins s σ H Q I h =>
  wpAny_Dict_empty ⟨.ref s.heap.objs.size, _, I.laid (a := s.heap.objs.size) (o := .dK []) (t' := s.toks) (fun _ _ q => Heap.get?_push_of_some _ q) (Nat.le_refl _) (dk_empty s.heap I.big), rfl, h _ (I.hok.fresh (Nat.le_refl _))⟩
end

noncomputable abbrev VV : List (V × V) → List (Value × Value) → Prop := Paired fun p q => RelV p.1 q.1 ∧ RelV p.2 q.2
section
variable {X : Cx} {pins : List (Addr × Obj)} {σ : St} {H : Hp} {s : Shared} {a : Addr} {y d : V} {u r : Value} {o : Option V} {A : Around} {E : Value → Shared → Prop}
end

section
variable {X : Cx} {o e f : Expr} {apos cpos : Pos} {td ty tx : TE}
end

section
variable {X : Cx} {pins : List (Addr × Obj)} {σ : St} {H : Hp} {s : Shared} {a : Addr} {kvs : List (Key × V)} {A : Around} {E : Value → Shared → Prop}
end


section
variable {X : Cx} {pins : List (Addr × Obj)} {σ : St} {H : Hp} {s : Shared} {a : Addr} {y : V} {u : Value} {A : Around} {E : Value → Shared → Prop}
end
end L2

namespace L2
open PySem PySem.Spec PyProof.Rows
section
variable {X : Cx}
end
section
variable {κ : Type} [DecidableEq κ]
end
end L2
namespace L2
open PySem PySem.Spec PyProof.Rows
mutual
inductive Tree (H : Hp) : V → PyData → Prop
  | non : Tree H .non .none
  | bl (b : Bool) : Tree H (.bl b) (.bool b)
  | int (i : Int) : Tree H (.int i) (.int i)
  | str (x : Str) : Tree H (.str x) (.str x)
  | lst {a : Addr} {xs : List V} {ds : List PyData} (e : H a = some (.lst xs)) (r : Trees H xs ds) : Tree H (.ref a) (.list ds)
  | tup {a : Addr} {xs : List V} {ds : List PyData} (e : H a = some (.tup xs)) (r : Trees H xs ds) : Tree H (.ref a) (.tuple ds)
  | emp {a : Addr} (e : H a = some (.dK [])) : Tree H (.ref a) (.dict [])
inductive Trees (H : Hp) : List V → List PyData → Prop
  | nil : Trees H [] []
  | cons {x : V} {xs : List V} {d : PyData} {ds : List PyData} (h : Tree H x d) (t : Trees H xs ds) : Trees H (x :: xs) (d :: ds)
end
mutual
theorem Tree.keep {H H' : Hp} (s : Same H H') : ∀ {x : V} {d : PyData}, Tree H x d → Tree H' x d
  | _, _, .non => .non
  | _, _, .bl b => .bl b
  | _, _, .int i => .int i
  | _, _, .str x => .str x
  | _, _, .lst e r => .lst (s _ _ e) (Trees.keep s r)
  | _, _, .tup e r => .tup (s _ _ e) (Trees.keep s r)
  | _, _, .emp e => .emp (s _ _ e)
theorem Trees.keep {H H' : Hp} (s : Same H H') : ∀ {xs : List V} {ds : List PyData}, Trees H xs ds → Trees H' xs ds
  | _, _, .nil => .nil
  | _, _, .cons h t => .cons (Tree.keep s h) (Trees.keep s t)
end
section
variable {P : Program} {w : World} {H : Hp} {h : Heap}
theorem empty_reads {a : Addr} (ok : HOk P w H h) (e : H a = some (.dK [])) : Reads h (.ref a) (.dict []) [a] := by
  obtain ⟨_, _, vs, r, hd⟩ := dk_of ok e
  cases r
  obtain ⟨o, es, ep, ho, hx, hdat, _, hp, _⟩ := hd
  have e0 : es.toList = [] := by
    generalize es.toList = l at hp
    cases hp
    rfl
  exact Reads.dict (kvs := []) (as := []) (bs := []) ho hx.1 hdat (by rw [e0]; exact .nil) (by rw [e0]; exact .nil)
mutual
theorem Tree.reads (ok : HOk P w H h) : ∀ {x : V} {d : PyData}, Tree H x d → ∀ v, RelV x v → ∃ as, Reads h v d as ∧ ∀ b ∈ as, H b ≠ none
  | _, _, .non, v, r => by cases r; exact ⟨_, .none, by simp⟩
  | _, _, .bl b, v, r => by cases r; exact ⟨_, .bool b, by simp⟩
  | _, _, .int i, v, r => by obtain ⟨t, rfl⟩ := r; exact ⟨_, .int i t, by simp⟩
  | _, _, .str x, v, r => by obtain ⟨t, rfl⟩ := r; exact ⟨_, .str x t, by simp⟩
  | _, _, .lst (a := a) e rs, v, r => by
    cases r
    obtain ⟨_, its, n, rv, e1⟩ := ok a _ e
    obtain ⟨as, h1, h2⟩ := Trees.reads ok rs its rv
    refine ⟨_, .list e1 rfl rfl (by simpa using h1), fun b hb => ?_⟩
    rcases List.mem_cons.mp hb with rfl | hb
    · rw [e]; simp
    · exact h2 b hb
  | _, _, .tup (a := a) e rs, v, r => by
    cases r
    obtain ⟨_, its, rv, o, e1, c, n, d⟩ := ok a _ e
    obtain ⟨as, h1, h2⟩ := Trees.reads ok rs its rv
    exact ⟨_, .tuple e1 c d (by simpa using h1), h2⟩
  | _, _, .emp (a := a) e, v, r => by
    cases r
    refine ⟨_, empty_reads ok e, fun b hb => ?_⟩
    have z : b = a := by simpa using hb
    rw [z, e]; simp
theorem Trees.reads (ok : HOk P w H h) : ∀ {xs : List V} {ds : List PyData}, Trees H xs ds → ∀ its, Vals xs its → ∃ as, ReadsAll h its ds as ∧ ∀ b ∈ as, H b ≠ none
  | _, _, .nil, its, r => by cases r; exact ⟨_, .nil, by simp⟩
  | _, _, .cons q t, its, r => by
    cases r with
    | cons r1 r2 =>
      obtain ⟨as, h1, h2⟩ := Tree.reads ok q _ r1
      obtain ⟨bs, h3, h4⟩ := Trees.reads ok t _ r2
      refine ⟨_, .cons h1 h3, fun b hb => ?_⟩
      rcases List.mem_append.mp hb with hb | hb
      · exact h2 b hb
      · exact h4 b hb
end
end
section
variable {X : Cx}
theorem ReadsAll.nil_addrs {h : Heap} {vs : List Value} {as : List Addr} : ReadsAll h vs [] as → as = []
  | .nil => rfl
theorem call_repr (hg : X.A.guards = some []) (hu : X.A.units + 64 < cLine) : CallR X (.builtin "repr") (fun xs H Q => ∃ x d, xs = [x] ∧ Tree H x d ∧ d.showable = true ∧ d.depth ≤ 50 ∧ d.shown.length ≤ sizeLine ∧ (d.hasDict = true → d = .dict []) ∧ Q (.str d.shown) H) := by
  intro pins s σ H xs us Q I r h
  obtain ⟨x, d, rfl, t, hs, hd, hz, hn, q⟩ := h
  obtain ⟨u, rfl, rx⟩ := vals1 r
  have viaRef : ∀ a, x = .ref a → wpAny (model X.prog X.w) X.A (call (.builtin "repr") [u]) (EP X pins σ Q) X.xe s := fun a ea => by
    subst ea
    obtain ⟨as, h1, h2⟩ := Tree.reads I.hok t u rx
    cases rx
    have hsys : d.hasDict = true → sysModules ∉ as := fun hh z => by
      have e := hn hh
      subst e
      cases t with
      | emp e =>
        obtain ⟨_, hS, _⟩ := dk_of I.hok e
        cases h1 with
        | dict q1 q2 q3 q4 q5 =>
          have e4 := ReadsAll.nil_addrs q4
          have e5 := ReadsAll.nil_addrs q5
          subst e4 e5
          have z' : sysModules = a := by simpa using z
          rw [← z'] at hS
          simp at hS
    refine repr_of_reads' h1 hs hsys hg (by lia) (fun b o e => e) (fun h' tk2 tk hk => ?_) hz
    exact ⟨.str d.shown, H, I.kept (t' := tk) hk, ⟨_, rfl⟩, q⟩
  cases t with
  | non => cases rx; exact P.repr_of_none ⟨.str _, H, I.tok _, ⟨_, rfl⟩, q⟩
  | bl b => cases rx; exact P.repr_of_bool ⟨.str _, H, I.tok _, ⟨_, rfl⟩, q⟩
  | int i => obtain ⟨tk, rfl⟩ := rx; exact P.repr_of_int (by simpa [PyData.showable] using hs) ⟨.str _, H, I.tok _, ⟨_, rfl⟩, q⟩
  | str y => obtain ⟨tk, rfl⟩ := rx; exact P.repr_of_str ⟨.str _, H, I.tok _, ⟨_, rfl⟩, q⟩ hz
  | lst e rr => exact viaRef _ rfl
  | tup e rr => exact viaRef _ rfl
  | emp e => exact viaRef _ rfl
end
section
variable {X : Cx} {e : Expr} {te : TE}
end
end L2
namespace L2
open PySem PySem.Spec PyProof.Rows
section
variable {P : Program} {w : World} {H : Hp} {h : Heap}
mutual
theorem Tree.shows (ok : HOk P w H h) : ∀ {x : V} {d : PyData}, Tree H x d → ∀ v, RelV x v → d.showable = true → d.shown.length ≤ sizeLine → ∃ bs, ReadAtMost h d.depth bs ∧ ReprK P w bs h d.depth v d.shown
  | _, _, .non, v, r, _, _ => by
    cases r
    refine ⟨[], (fun _ z => nomatch z), ?_⟩
    simp only [PyData.shown]
    exact ReprK.of_is ReprIs.none _ _ _
  | _, _, .bl b, v, r, _, _ => by
    cases r
    refine ⟨[], (fun _ z => nomatch z), ?_⟩
    simp only [PyData.shown]
    exact ReprK.of_is (ReprIs.bool b) _ _ _
  | _, _, .int i, v, r, hs, _ => by
    obtain ⟨t, rfl⟩ := r
    refine ⟨[], (fun _ z => nomatch z), ?_⟩
    simp only [PyData.shown]
    exact ReprK.of_is (ReprIs.int t (by simpa [PyData.showable] using hs)) _ _ _
  | _, _, .str x, v, r, _, hz => by
    obtain ⟨t, rfl⟩ := r
    refine ⟨[], (fun _ z => nomatch z), ?_⟩
    simp only [PyData.shown] at hz ⊢
    exact ReprK.of_is (ReprIs.str x t hz) _ _ _
  | _, _, .lst (a := a) (ds := ds) e rs, v, r, hs, hz => by
    cases r
    have tr : Tree H (.ref a) (.list ds) := .lst e rs
    obtain ⟨as, rd, _⟩ := Tree.reads ok tr (.ref a) rfl
    obtain ⟨_, its, n, rv, e1⟩ := ok a _ e
    simp only [PyData.shown] at hz
    obtain ⟨bs, hb, hk⟩ := Trees.shows ok rs its rv (by simpa [PyData.showable] using hs) (fun t ht => Nat.le_trans (listText_mem_le ht) hz)
    have far : a ∉ bs := not_mem_of_deeper rd (by simp only [PyData.depth]; lia) hb
    refine ⟨a :: bs, ReadAtMost.cons rd (by simp only [PyData.depth]; lia) hb, ?_⟩
    simp only [PyData.depth, PyData.shown]
    cases its with
    | nil =>
      cases rv
      cases rs
      simp only [PyData.shownAll, listText_nil]
      exact ReprK.listEmpty e1 rfl rfl
    | cons u l => exact ReprK.list e1 rfl rfl far (by simpa using hk.length_eq) (fun i y z => hk.item i y (by simpa using z))
  | _, _, .tup (a := a) (ds := ds) e rs, v, r, hs, hz => by
    cases r
    have tr : Tree H (.ref a) (.tuple ds) := .tup e rs
    obtain ⟨as, rd, _⟩ := Tree.reads ok tr (.ref a) rfl
    obtain ⟨_, its, rv, o, e1, c, n, d⟩ := ok a _ e
    simp only [PyData.shown] at hz
    obtain ⟨bs, hb, hk⟩ := Trees.shows ok rs its rv (by simpa [PyData.showable] using hs) (fun t ht => Nat.le_trans (tupleText_mem_le ht) hz)
    have far : a ∉ bs := not_mem_of_deeper rd (by simp only [PyData.depth]; lia) hb
    refine ⟨a :: bs, ReadAtMost.cons rd (by simp only [PyData.depth]; lia) hb, ?_⟩
    simp only [PyData.depth, PyData.shown]
    exact ReprK.tuple e1 c d far (by simpa using hk)
  | _, _, .emp (a := a) e, v, r, _, _ => by
    cases r
    have rd := empty_reads ok e
    obtain ⟨_, hS, vs, rk, hd⟩ := dk_of ok e
    cases rk
    obtain ⟨o, es, ep, ho, hx, hdat, _, hp, _⟩ := hd
    have e0 : es.toList = [] := by
      generalize es.toList = l at hp
      cases hp
      rfl
    refine ⟨[a], ReadAtMost.cons (n := PyData.depthKv []) rd (by simp only [PyData.depth]; lia) (fun _ z => nomatch z), ?_⟩
    simp only [PyData.depth, PyData.shown]
    have nil : ReprAllK P w [] h (PyData.depthKv []) [] (PyData.shownAll []) := by simp only [PyData.shownAll]; exact .nil
    refine ReprK.dict ho hx.1 hdat hS (by simp) ?_
    have z := ReprEntriesK.of_two (prog := P) (w := w) (as := []) (h₀ := h) (d := PyData.depthKv []) es.toList [] [] (by rw [e0]; exact nil) (by rw [e0]; exact nil)
    simpa [PyData.shownKv] using z
theorem Trees.shows (ok : HOk P w H h) : ∀ {xs : List V} {ds : List PyData}, Trees H xs ds → ∀ its, Vals xs its → PyData.showableAll ds = true → (∀ t ∈ PyData.shownAll ds, t.length ≤ sizeLine) →
    ∃ bs, ReadAtMost h (PyData.depthAll ds) bs ∧ ReprAllK P w bs h (PyData.depthAll ds) its (PyData.shownAll ds)
  | _, _, .nil, its, r, _, _ => by
    cases r
    exact ⟨[], (fun _ z => nomatch z), by simp only [PyData.shownAll]; exact .nil⟩
  | _, _, .cons q t, its, r, hs, hz => by
    cases r with
    | cons r1 r2 =>
      simp only [PyData.showableAll, Bool.and_eq_true] at hs
      simp only [PyData.shownAll, List.mem_cons, forall_eq_or_imp] at hz
      obtain ⟨b1, m1, k1⟩ := Tree.shows ok q _ r1 hs.1 hz.1
      obtain ⟨b2, m2, k2⟩ := Trees.shows ok t _ r2 hs.2 hz.2
      simp only [PyData.depthAll, PyData.shownAll]
      refine ⟨b1 ++ b2, (m1.mono (Nat.le_max_left _ _)).append (m2.mono (Nat.le_max_right _ _)), ?_⟩
      exact .cons ((k1.more fun b hb => List.mem_append_left _ hb).level_le (Nat.le_max_left _ _)) (k2.more_le (fun b hb => List.mem_append_right _ hb) (Nat.le_max_right _ _))
end
end
section
variable {X : Cx}
theorem call_reprT (hg : X.A.guards = some []) (hu : X.A.units + 64 < cLine) : CallR X (.builtin "repr") (fun xs H Q => ∃ x d, xs = [x] ∧ Tree H x d ∧ d.showable = true ∧ d.depth ≤ 50 ∧ d.shown.length ≤ sizeLine ∧ Q (.str d.shown) H) := by
  intro pins s σ H xs us Q I r h
  obtain ⟨x, d, rfl, t, hs, hd, hz, q⟩ := h
  obtain ⟨u, rfl, rx⟩ := vals1 r
  cases t with
  | non => exact call_repr hg hu pins s σ H [.non] [u] Q I r ⟨_, _, rfl, .non, hs, hd, hz, fun z => by simp [PyData.hasDict] at z, q⟩
  | bl b => exact call_repr hg hu pins s σ H [.bl b] [u] Q I r ⟨_, _, rfl, .bl b, hs, hd, hz, fun z => by simp [PyData.hasDict] at z, q⟩
  | int i => exact call_repr hg hu pins s σ H [.int i] [u] Q I r ⟨_, _, rfl, .int i, hs, hd, hz, fun z => by simp [PyData.hasDict] at z, q⟩
  | str y => exact call_repr hg hu pins s σ H [.str y] [u] Q I r ⟨_, _, rfl, .str y, hs, hd, hz, fun z => by simp [PyData.hasDict] at z, q⟩
  | emp e => exact call_repr hg hu pins s σ H _ [u] Q I r ⟨_, _, rfl, .emp e, hs, hd, hz, fun _ => rfl, q⟩
  | lst e rs =>
    rename_i a ys ds
    cases rx
    obtain ⟨as, rd, _⟩ := Tree.reads I.hok (Tree.lst e rs) (.ref a) rfl
    obtain ⟨_, its, n, rv, e1⟩ := I.hok a _ e
    simp only [PyData.shown] at hz
    simp only [PyData.depth] at hd
    obtain ⟨bs, hb, hk⟩ := Trees.shows I.hok rs its rv (by simpa [PyData.showable] using hs) (fun t ht => Nat.le_trans (listText_mem_le ht) hz)
    have far : a ∉ bs := not_mem_of_deeper rd (by simp only [PyData.depth]; lia) hb
    have fin : ∀ h' (t tk : Nat), (∀ b o, s.heap.get? b = some o → h'.get? b = some o) → EP X pins σ Q (.str (listText (PyData.shownAll ds)) t) { s with heap := h', toks := tk } := fun h' t tk kk =>
      ⟨.str _, H, I.kept (t' := tk) kk, ⟨_, rfl⟩, by simpa only [PyData.shown] using q⟩
    refine call_repr_slot (by lia) (show s.TypeIs (.ref a) "list" from ⟨_, e1, rfl⟩) F.slot_list_repr.toG ?_
    cases its with
    | nil =>
      cases rv
      cases rs
      refine call_list_repr_empty ⟨_, e1, rfl⟩ e1 rfl ⟨_, _, rfl, ?_⟩
      simpa only [PyData.shownAll, listText_nil] using fin s.heap _ _ fun _ _ z => z
    | cons v l =>
      exact call_list_reprK e1 rfl rfl far (by simpa using hk.length_eq) (fun i y z => hk.item i y (by simpa using z)) hg (fun b _ => Clear.nil b) (by show X.A.units + 1 + (PyData.depthAll ds + 1) < cLine; lia) (fun _ _ z => z) (fun h' t tk kk => ⟨_, _, rfl, fin h' t tk kk⟩) hz
  | tup e rs =>
    rename_i a ys ds
    cases rx
    obtain ⟨as, rd, _⟩ := Tree.reads I.hok (Tree.tup e rs) (.ref a) rfl
    obtain ⟨_, its, rv, o, e1, c, n, d⟩ := I.hok a _ e
    simp only [PyData.shown] at hz
    simp only [PyData.depth] at hd
    obtain ⟨bs, hb, hk⟩ := Trees.shows I.hok rs its rv (by simpa [PyData.showable] using hs) (fun t ht => Nat.le_trans (tupleText_mem_le ht) hz)
    have far : a ∉ bs := not_mem_of_deeper rd (by simp only [PyData.depth]; lia) hb
    refine call_repr_slot (by lia) (show s.TypeIs (.ref a) "tuple" from ⟨_, e1, c⟩) F.slot_tuple_repr ?_
    exact call_tuple_reprK e1 c d far (by simpa using hk) hg (fun b _ => Clear.nil b) (by show X.A.units + 1 + (PyData.depthAll ds + 1) < cLine; lia) (fun _ _ z => z) (fun h' t tk kk => ⟨_, _, rfl, ⟨.str _, H, I.kept (t' := tk) kk, ⟨_, rfl⟩, by simpa only [PyData.shown] using q⟩⟩) hz
end
end L2
namespace L2
open PySem PySem.Spec PyProof.Rows
noncomputable def Off (D : List Addr) (H : Hp) : Hp := fun a => if a ∈ D then none else H a
theorem off_at {D : List Addr} {H : Hp} {a : Addr} {o : HO} (h : H a = some o) (n : a ∉ D) : Off D H a = some o := by unfold Off; rw [if_neg n]; exact h
theorem off_sub {D : List Addr} {H : Hp} : Same (Off D H) H := fun a o h => by
  unfold Off at h
  split at h
  · cases h
  · exact h
theorem off_kp {D : List Addr} {H H' : Hp} (k : Hv.Kp D H H') : Same (Off D H) (Off D H') := fun a o h => by
  unfold Off at h ⊢
  split at h
  · cases h
  · rename_i n
    rw [if_neg n]
    exact k a o h n
structure GD (n w : Nat) (d : PyData) : Prop where
  sh : d.showable = true
  lv : d.leavesShort 40 = true
  dp : d.depth ≤ n
  wt : d.weight ≤ w
noncomputable def Th (H : Hp) (n w : Nat) (v : V) : Prop := ∃ d, Tree H v d ∧ GD n w d
theorem Th.keep {H H' : Hp} {n w : Nat} {v : V} (t : Th H n w v) (s : Same H H') : Th H' n w v := let ⟨d, a, b⟩ := t; ⟨d, a.keep s, b⟩
theorem Th.mono {H : Hp} {n w n' w' : Nat} {v : V} (t : Th H n w v) (h1 : n ≤ n') (h2 : w ≤ w') : Th H n' w' v :=
  let ⟨d, a, b⟩ := t; ⟨d, a, b.sh, b.lv, Nat.le_trans b.dp h1, Nat.le_trans b.wt h2⟩
theorem trees_of {H : Hp} {n w : Nat} : ∀ {xs : List V}, (∀ x ∈ xs, Th H n w x) → ∃ ds, Trees H xs ds ∧ PyData.showableAll ds = true ∧ PyData.leavesShortAll 40 ds = true ∧ PyData.depthAll ds ≤ n ∧ PyData.weightAll ds ≤ xs.length * (w + 1)
  | [], _ => ⟨[], .nil, rfl, rfl, Nat.zero_le _, Nat.zero_le _⟩
  | x :: r, h => by
    obtain ⟨d, t, g⟩ := h x List.mem_cons_self
    obtain ⟨ds, ts, h1, h2, h3, h4⟩ := trees_of (xs := r) fun y hy => h y (List.mem_cons_of_mem _ hy)
    refine ⟨d :: ds, .cons t ts, ?_, ?_, ?_, ?_⟩
    · simp only [PyData.showableAll, g.sh, h1, Bool.and_self]
    · simp only [PyData.leavesShortAll, g.lv, h2, Bool.and_self]
    · simp only [PyData.depthAll]; have := g.dp; lia
    · simp only [PyData.weightAll, List.length_cons]
      have := g.wt
      rw [Nat.add_mul, Nat.one_mul]
      lia
theorem Th.lst {H : Hp} {n w L : Nat} {a : Addr} {xs : List V} (e : H a = some (.lst xs)) (h : ∀ x ∈ xs, Th H n w x) (hl : xs.length ≤ L) : Th H (n + 1) (L * (w + 1)) (.ref a) := by
  obtain ⟨ds, ts, h1, h2, h3, h4⟩ := trees_of h
  refine ⟨.list ds, .lst e ts, ?_, ?_, ?_, ?_⟩
  · simpa only [PyData.showable] using h1
  · simpa only [PyData.leavesShort] using h2
  · simp only [PyData.depth]; lia
  · simp only [PyData.weight]
    exact Nat.le_trans h4 (Nat.mul_le_mul_right _ hl)
theorem GD.shown {n w : Nat} {d : PyData} (g : GD n w d) (hw : w ≤ 300000) : d.shown.length ≤ sizeLine := by
  have h := PyData.shown_le 40 (by decide) d g.lv
  have h2 := g.wt
  have h3 : sizeLine = 16777216 := by decide
  lia
theorem int_short {i : Int} (h : i.natAbs ≤ 10 ^ 25) : ((PyData.int i).shown).length ≤ 40 := by
  have e := int_text_length_le10 (k := 26) (by decide) (show i.natAbs < 10 ^ 26 from Nat.lt_of_le_of_lt h (by decide))
  show (Str.ofString (toString i)).length ≤ 40
  rw [PySem.ofString_length]
  lia
theorem Th.non {H : Hp} : Th H 1 100 .non := ⟨_, .non, rfl, rfl, by decide, by decide⟩
theorem Th.bl {H : Hp} (b : Bool) : Th H 1 100 (.bl b) := ⟨_, .bl b, rfl, rfl, by show (0 : Nat) ≤ 1; decide, by show (0 : Nat) ≤ 100; decide⟩
theorem Th.int {H : Hp} {i : Int} (h : i.natAbs ≤ 10 ^ 25) : Th H 1 100 (.int i) := by
  have hl : i.natAbs.log2 < 84 := by
    by_cases h0 : i.natAbs = 0
    · rw [h0]; decide
    · exact (Nat.log2_lt h0).mpr (Nat.lt_of_le_of_lt h (by decide))
  refine ⟨_, .int i, ?_, ?_, by show (0 : Nat) ≤ 1; decide, ?_⟩
  · simp only [PyData.showable, decide_eq_true_eq]; lia
  · simp only [PyData.leavesShort, decide_eq_true_eq]; exact int_short h
  · simp only [PyData.weight]; split <;> lia
end L2
namespace Hv
open PySem L2
section
variable {K : PySem.W.Frag}
theorem kit_nl : PySem.W.kitOne K (.type "NoneType") (.type "list") = some false := by kernel_rfl
theorem kit_bl' : PySem.W.kitOne K (.type "bool") (.type "list") = some false := by kernel_rfl
theorem kit_il : PySem.W.kitOne K (.type "int") (.type "list") = some false := by kernel_rfl
theorem kit_sl : PySem.W.kitOne K (.type "str") (.type "list") = some false := by kernel_rfl
theorem kit_tl : PySem.W.kitOne K (.type "tuple") (.type "list") = some false := by kernel_rfl
theorem kit_dl : PySem.W.kitOne K (.type "dict") (.type "list") = some false := by kernel_rfl
theorem kit_nt : PySem.W.kitOne K (.type "NoneType") (.type "tuple") = some false := by kernel_rfl
theorem kit_bt : PySem.W.kitOne K (.type "bool") (.type "tuple") = some false := by kernel_rfl
theorem kit_it : PySem.W.kitOne K (.type "int") (.type "tuple") = some false := by kernel_rfl
theorem kit_st : PySem.W.kitOne K (.type "str") (.type "tuple") = some false := by kernel_rfl
theorem kit_lt : PySem.W.kitOne K (.type "list") (.type "tuple") = some false := by kernel_rfl
theorem kit_dt : PySem.W.kitOne K (.type "dict") (.type "tuple") = some false := by kernel_rfl
end
noncomputable def betwD (lo hi : Int) : PyData → Bool
  | .int i => decide (lo ≤ i) && decide (i ≤ hi)
  | _ => false
noncomputable def rowD (lo hi : Int) : PyData → Bool
  | .list ds => ds.all (betwD lo hi)
  | _ => false
noncomputable def lenD : PyData → Nat
  | .list ds => ds.length
  | _ => 0
noncomputable def valD : PyData → Int
  | .int i => i
  | _ => 0
noncomputable def sumD : PyData → Int
  | .list ds => (ds.map valD).sum
  | _ => 0
noncomputable def isFrameD : PyData → Bool
  | .tuple [x, y, z] => betwD 2 16 x && (rowD 1 6 y && (decide (2 ≤ lenD y) && decide (lenD y ≤ 4))) && (rowD (-9) 9 z && decide ((lenD z : Int) = sumD y))
  | _ => false
noncomputable def isL : PyData → Bool
  | .list _ => true
  | _ => false
theorem tree_thing {H : Hp} {v : V} {d : PyData} (t : Tree H v d) : Thing H v := by
  cases t with
  | non => exact .non
  | bl b => exact .bl b
  | int i => exact .int i
  | str x => exact .str x
  | lst e _ => exact .lst e
  | tup e _ => exact .tup e
  | emp e => exact .dK e
theorem tree_betw {H : Hp} {v : V} {d : PyData} {lo hi : Int} (t : Tree H v d) : betw v lo hi = betwD lo hi d := by cases t <;> rfl
theorem trees_get {H : Hp} : ∀ {xs : List V} {ds : List PyData} {i : Nat} {x : V}, Trees H xs ds → xs[i]? = some x → ∃ d, ds[i]? = some d ∧ Tree H x d
  | _, _, _, _, .nil, e => by simp at e
  | _, _, 0, _, .cons h _, e => by simp at e; subst e; exact ⟨_, rfl, h⟩
  | _, _, i + 1, q, .cons _ t, e => by
    obtain ⟨d, h1, h2⟩ := trees_get (i := i) (x := q) t (by simpa using e)
    exact ⟨d, by simpa using h1, h2⟩
theorem trees_len {H : Hp} : ∀ {xs : List V} {ds : List PyData}, Trees H xs ds → xs.length = ds.length
  | _, _, .nil => rfl
  | _, _, .cons _ t => by rw [List.length_cons, List.length_cons, trees_len t]
theorem trees_all {H : Hp} {lo hi : Int} : ∀ {xs : List V} {ds : List PyData}, Trees H xs ds → xs.all (fun x => betw x lo hi) = ds.all (betwD lo hi)
  | _, _, .nil => rfl
  | _, _, .cons h t => by rw [List.all_cons, List.all_cons, tree_betw h, trees_all t]
theorem trees_ints {H : Hp} {lo hi : Int} : ∀ {xs : List V} {ds : List PyData}, Trees H xs ds → ds.all (betwD lo hi) = true → xs = (ds.map valD).map V.int ∧ ∀ n ∈ ds.map valD, lo ≤ n ∧ n ≤ hi
  | _, _, .nil, _ => ⟨rfl, fun n hn => by simp at hn⟩
  | _, _, .cons h t, a => by
    rw [List.all_cons, Bool.and_eq_true] at a
    obtain ⟨e, b⟩ := trees_ints t a.2
    cases h with
    | int i =>
      have hi' : lo ≤ i ∧ i ≤ hi := by simpa [betwD] using a.1
      refine ⟨by rw [e]; simp [valD], fun n hn => ?_⟩
      rcases List.mem_cons.mp hn with rfl | hn
      · exact hi'
      · exact b n hn
    | _ => simp [betwD] at a
noncomputable def Sh (d : PyData) : Prop := d.weight ≤ 300000
theorem len_weight : ∀ ds : List PyData, ds.length ≤ PyData.weightAll ds
  | [] => Nat.zero_le _
  | d :: r => by have := len_weight r; simp only [PyData.weightAll, List.length_cons]; lia
theorem weight_mem : ∀ {ds : List PyData} {d : PyData}, d ∈ ds → d.weight ≤ PyData.weightAll ds
  | e :: r, d, h => by
    simp only [PyData.weightAll]
    rcases List.mem_cons.mp h with rfl | h
    · lia
    · have := weight_mem h; lia
noncomputable def spLBT : Sp := fun vs H Q _ => ∃ v d lo hi, vs = [v, .int lo, .int hi] ∧ Tree H v d ∧ Sh d ∧ ∀ H', Same H H' → Q (.bl (rowD lo hi d)) H'
noncomputable def spIFT : Sp := fun vs H Q _ => ∃ v d, vs = [v] ∧ Tree H v d ∧ Sh d ∧ ∀ H', Same H H' → Q (.bl (isFrameD d)) H'
section
variable {P : Program} {w : World} {K : PySem.W.Frag} {mg : Str → Option Value} {base : Heap}
theorem scWhole : FnScope ["thing"] ["thing"] (defScope sWhole) := ⟨rfl, rfl, rfl, by decide +kernel, rfl, by decide +kernel, by decide +kernel⟩
theorem ok_whole {f : Addr} {fd : FuncData} (F : Fun K "is_whole" "is_whole" sWhole f fd) (T : Txt mg) : FnOk P w K mg base CX0 1 f fd ["thing"] spWhole := by
  refine F.ok scWhole (fun vs H Q E h => ?_) (fun cdv A outer s H vs Q E hr h => ?_)
  · obtain ⟨v, rfl, _⟩ := h; rfl
  · obtain ⟨v, rfl, ty, k⟩ := h
    refine ⟨_, pss_one (ps_ret (pe_and (pe_callB call_isi (by rfl) T.isi boot_isinstance (pa_cons (pv 0) (pa_cons (pe_ty T.int boot_int) pa_nil)))
      (pe_one (pe_not (pe_callB call_isi (by rfl) T.isi boot_isinstance (pa_cons (pv 0) (pa_cons (pe_ty T.bool boot_bool) pa_nil))))))), ?_⟩
    cases ty with
    | non => exact ⟨_, rfl, _, _, _, _, rfl, .non, kit_ni, false, rfl, iteF k⟩
    | bl b => exact ⟨_, rfl, _, _, _, _, rfl, .bl b, kit_bi, true, rfl, iteT ⟨_, rfl, _, _, _, _, rfl, .bl b, kit_bb, true, rfl, k⟩⟩
    | int i => exact ⟨_, rfl, _, _, _, _, rfl, .int i, kit_ii, true, rfl, iteT ⟨_, rfl, _, _, _, _, rfl, .int i, kit_ib, false, rfl, k⟩⟩
    | str x => exact ⟨_, rfl, _, _, _, _, rfl, .str x, kit_si, false, rfl, iteF k⟩
    | lst e => exact ⟨_, rfl, _, _, _, _, rfl, .lst e, kit_li, false, rfl, iteF k⟩
    | tup e => exact ⟨_, rfl, _, _, _, _, rfl, .tup e, kit_ti, false, rfl, iteF k⟩
    | dK e => exact ⟨_, rfl, _, _, _, _, rfl, .dK e, kit_di, false, rfl, iteF k⟩
theorem scBetw : FnScope ["thing", "least", "greatest"] ["thing", "least", "greatest"] (defScope sBetw) := ⟨rfl, rfl, rfl, by decide +kernel, rfl, by decide +kernel, by decide +kernel⟩
theorem ok_betw {f : Addr} {fd : FuncData} (F : Fun K "is_between" "is_between" sBetw f fd) (D1 : Def P w K mg base 1 "is_whole" ["thing"] spWhole) : FnOk P w K mg base CX0 2 f fd ["thing", "least", "greatest"] spBetw := by
  refine F.ok scBetw (fun vs H Q E h => ?_) (fun cdv A outer s H vs Q E hr h => ?_)
  · obtain ⟨v, lo, hi, rfl, _⟩ := h; rfl
  · obtain ⟨v, lo, hi, rfl, ty, k⟩ := h
    refine ⟨_, pss_one (ps_ret (pe_and (pe_fn D1 hr (by rfl) (pa_cons (pv 0) pa_nil)) (pe_one (pe_chain op_le op_le (pv 1) (pv 0) (pv 2))))), ?_⟩
    refine ⟨_, rfl, v, rfl, ty, _, rfl, ?_⟩
    cases v with
    | int i =>
      refine iteT ?_
      refine ⟨_, rfl, _, rfl, _, _, rfl, rfl, _, rfl, ?_⟩
      by_cases h1 : lo ≤ i
      · rw [decide_eq_true h1]
        refine iteT ⟨_, rfl, _, _, rfl, rfl, ?_⟩
        have e : betw (.int i) lo hi = decide (i ≤ hi) := by simp [betw, h1]
        rw [e] at k
        exact k
      · rw [decide_eq_false h1]
        refine iteF ?_
        have e : betw (.int i) lo hi = false := by simp [betw, h1]
        rw [e] at k
        exact k
    | _ => exact iteF k
theorem scLBetw : FnScope ["thing", "least", "greatest"] ["thing", "least", "greatest"] (defScope sLBetw) := ⟨rfl, rfl, rfl, by decide +kernel, rfl, by decide +kernel, by decide +kernel⟩
theorem ok_lbt {f : Addr} {fd : FuncData} (F : Fun K "is_list_between" "is_list_between" sLBetw f fd) (T : Txt mg) (D2 : Def P w K mg base 2 "is_between" ["thing", "least", "greatest"] spBetw) : FnOk P w K mg base CX0 3 f fd ["thing", "least", "greatest"] spLBT := by
  refine F.ok scLBetw (fun vs H Q E h => ?_) (fun cdv A outer s H vs Q E hr h => ?_)
  · obtain ⟨v, d, lo, hi, rfl, _⟩ := h; rfl
  · obtain ⟨v, d, lo, hi, rfl, t, hsh, k⟩ := h
    refine ⟨_, pss_one (ps_ret (pe_and (pe_callB call_isi (by rfl) T.isi boot_isinstance (pa_cons (pv 0) (pa_cons (pe_ty T.list boot_list) pa_nil)))
      (pe_one (pe_callB (call_all rfl) (by rfl) T.all boot_all (pa_cons
        (pe_cmp1 (defScope sLBetw) ["thing", "least", "greatest"] ["least", "greatest"] [1, 2] rfl (pi_list (pv 0)) (fun cl C s H fp => pf_nil) (fun cl C s H fp => pe_fn D2 hr (by rfl) (pa_cons (pv 0) (pa_cons (pv 1) (pa_cons (pv 2) pa_nil)))) (by decide +kernel)) pa_nil))))), ?_⟩
    cases t with
    | non => exact ⟨_, rfl, _, _, _, _, rfl, .non, kit_nl, false, rfl, iteF (k H (Same.refl _))⟩
    | bl b => exact ⟨_, rfl, _, _, _, _, rfl, .bl b, kit_bl', false, rfl, iteF (k H (Same.refl _))⟩
    | int i => exact ⟨_, rfl, _, _, _, _, rfl, .int i, kit_il, false, rfl, iteF (k H (Same.refl _))⟩
    | str x => exact ⟨_, rfl, _, _, _, _, rfl, .str x, kit_sl, false, rfl, iteF (k H (Same.refl _))⟩
    | tup e rs => exact ⟨_, rfl, _, _, _, _, rfl, .tup e, kit_tl, false, rfl, iteF (k H (Same.refl _))⟩
    | emp e => exact ⟨_, rfl, _, _, _, _, rfl, .dK e, kit_dl, false, rfl, iteF (k H (Same.refl _))⟩
    | lst e rs =>
      rename_i a xs ds
      have hxl : xs.length ≤ 300000 := by
        rw [trees_len rs]
        have h1 : PyData.weightAll ds ≤ 300000 := by simpa only [Sh, PyData.weight] using hsh
        exact Nat.le_trans (len_weight ds) h1
      refine ⟨_, rfl, _, _, _, _, rfl, .lst e, kit_ll, true, rfl, iteT ?_⟩
      refine ⟨_, rfl, a, rfl, ⟨_, SqL.of e⟩, comp_list (K := K) (a := a) (xs := xs) (fun i ys H2 => ys = ((xs.take i).map fun x => V.bl (betw x lo hi)) ∧ Same H H2) ⟨by simp, Same.refl _⟩ (fun i ys H2 _ p => SqL.of (p.2 _ _ e)) ?_ ?_⟩
      · rintro i x ys H2 hx ⟨rfl, s2⟩
        have hil : i < xs.length := (List.getElem?_eq_some_iff.mp hx).1
        obtain ⟨dd, _, tx⟩ := trees_get rs hx
        refine ⟨szl (by rw [List.length_map, List.length_take]; lia), ?_⟩
        refine ⟨_, rfl, _, rfl, _, rfl, x, lo, hi, rfl, (tree_thing tx).keep s2, ?_, s2⟩
        rw [List.take_add_one, hx]
        simp
      · rintro ys H2 ⟨rfl, s2⟩ D hD
        refine ⟨D, xs.map fun x => betw x lo hi, rfl, SqL.of ?_, ?_⟩
        · rw [upd_same, List.take_length, List.map_map]
          rfl
        · have e2 : (xs.map fun x => betw x lo hi).all id = ds.all (betwD lo hi) := by rw [List.all_map, ← trees_all rs]; rfl
          rw [e2]
          exact k _ (same_upd2 s2 (s2.free hD))
end
end Hv
namespace Hv
open PySem L2
theorem if_len {ds : List PyData} (h : ds.length ≠ 3) : isFrameD (.tuple ds) = false := by
  match ds, h with
  | [], _ => rfl
  | [_], _ => rfl
  | [_, _], _ => rfl
  | [_, _, _], h => exact absurd rfl h
  | _ :: _ :: _ :: _ :: _, _ => rfl
theorem row_list {lo hi : Int} {d : PyData} (h : rowD lo hi d = true) : ∃ ds, d = .list ds ∧ ds.all (betwD lo hi) = true := by
  cases d with
  | list ds => exact ⟨ds, rfl, h⟩
  | _ => simp [rowD] at h
theorem tup_case {K : PySem.W.Frag} {H : Hp} {v : V} {d : PyData} (t : Tree H v d) : (∃ ty, TyOf K H v ty ∧ PySem.W.kitOne K ty (.type "tuple") = some false ∧ isFrameD d = false) ∨ ∃ a xs ds, v = .ref a ∧ d = .tuple ds ∧ H a = some (.tup xs) ∧ Trees H xs ds := by
  cases t with
  | non => exact .inl ⟨_, .non, kit_nt, rfl⟩
  | bl b => exact .inl ⟨_, .bl b, kit_bt, rfl⟩
  | int i => exact .inl ⟨_, .int i, kit_it, rfl⟩
  | str x => exact .inl ⟨_, .str x, kit_st, rfl⟩
  | lst e rs => exact .inl ⟨_, .lst e, kit_lt, rfl⟩
  | emp e => exact .inl ⟨_, .dK e, kit_dt, rfl⟩
  | tup e rs => exact .inr ⟨_, _, _, rfl, rfl, e, rs⟩
theorem trees_cons {H : Hp} {xs : List V} {ds : List PyData} {n : Nat} (t : Trees H xs ds) (h : xs.length = n + 1) : ∃ x r d s, xs = x :: r ∧ ds = d :: s ∧ r.length = n ∧ Tree H x d ∧ Trees H r s := by
  cases t with
  | nil => cases h
  | cons a b => exact ⟨_, _, _, _, rfl, rfl, Nat.succ.inj h, a, b⟩
theorem trees3 {H : Hp} {xs : List V} {ds : List PyData} (t : Trees H xs ds) (h : xs.length = 3) : ∃ x y z dx dy dz, xs = [x, y, z] ∧ ds = [dx, dy, dz] ∧ Tree H x dx ∧ Tree H y dy ∧ Tree H z dz := by
  obtain ⟨x, r, dx, s, rfl, rfl, h, tx, t⟩ := trees_cons t h
  obtain ⟨y, r, dy, s, rfl, rfl, h, ty, t⟩ := trees_cons t h
  obtain ⟨z, r, dz, s, rfl, rfl, h, tz, t⟩ := trees_cons t h
  cases t
  · exact ⟨x, y, z, dx, dy, dz, rfl, rfl, tx, ty, tz⟩
  · cases h
theorem tree_row {H : Hp} {v : V} {d : PyData} {lo hi : Int} (t : Tree H v d) (h : rowD lo hi d = true) : ∃ b vs ys, v = .ref b ∧ d = .list ys ∧ H b = some (.lst vs) ∧ vs.length = ys.length ∧ vs = (ys.map valD).map V.int ∧ ∀ n ∈ ys.map valD, lo ≤ n ∧ n ≤ hi := by
  obtain ⟨ys, rfl, ha⟩ := row_list h
  cases t with
  | lst e r =>
    obtain ⟨ei, bi⟩ := trees_ints r ha
    exact ⟨_, _, ys, rfl, rfl, e, trees_len r, ei, bi⟩
theorem iteD {c A B : Prop} [Decidable c] (h1 : c → A) (h2 : ¬ c → B) : if decide c = true then A else B := ite2 (fun h => h1 (of_decide_eq_true h)) fun h => h2 fun z => h (decide_eq_true z)
theorem iteND {c A B : Prop} [Decidable c] (h1 : c → B) (h2 : ¬ c → A) : if (!decide c) = true then A else B := by
  by_cases h : c
  · rw [decide_eq_true h]; exact iteF (h1 h)
  · rw [decide_eq_false h]; exact iteT (h2 h)
section
variable {P : Program} {w : World} {K : PySem.W.Frag} {mg : Str → Option Value} {base : Heap}
theorem scIsFrame : FnScope ["thing"] ["thing"] (defScope sIsFrame) := ⟨rfl, rfl, rfl, by decide +kernel, rfl, by decide +kernel, by decide +kernel⟩
theorem ok_ift {f : Addr} {fd : FuncData} (F : Fun K "is_frame" "is_frame" sIsFrame f fd) (T : Txt mg) (D2 : Def P w K mg base 2 "is_between" ["thing", "least", "greatest"] spBetw) (D3 : Def P w K mg base 3 "is_list_between" ["thing", "least", "greatest"] spLBT) :
    FnOk P w K mg base CX0 4 f fd ["thing"] spIFT := by
  refine F.ok scIsFrame (fun vs H Q E h => ?_) (fun cdv A outer s H vs Q E hr h => ?_)
  · obtain ⟨v, d, rfl, _⟩ := h; rfl
  · obtain ⟨v, d, rfl, t, hsh, k⟩ := h
    refine ⟨_, pss_cons (ps_if (PW.pt (pw_or (pt_not (pt_val (pe_callB call_isi (by rfl) T.isi boot_isinstance (pa_cons (pv 0) (pa_cons (pe_ty T.tuple boot_tuple) pa_nil))))) (pw_or1 (pt_cmpR op_ne (lenS T.len (by rfl) (pv 0)) pe_int (nomark _))))) (pss_one (ps_ret pe_bl)) pss_nil)
      (pss_cons (ps_if (pt_not (pt_val (pe_fn D2 (hr.mono (by decide)) (by rfl) (pa_cons (ixt (pv 0) pe_int) (pa_cons pe_int (pa_cons pe_int pa_nil)))))) (pss_one (ps_ret pe_bl)) pss_nil)
      (pss_cons (ps_if (PW.pt (pw_or (pt_not (pt_val (pe_fn D3 hr (by rfl) (pa_cons (ixt (pv 0) pe_int) (pa_cons pe_int (pa_cons pe_int pa_nil)))))) (pw_or1 (pt_not (pt_chain op_le op_le pe_int (lenS T.len (by rfl) (ixt (pv 0) pe_int)) pe_int))))) (pss_one (ps_ret pe_bl)) pss_nil)
      (pss_one (ps_ret (pe_and (pe_fn D3 hr (by rfl) (pa_cons (ixt (pv 0) pe_int) (pa_cons (pe_un un_neg pe_int) (pa_cons pe_int pa_nil))))
        (pe_one (pe_cmpR op_eq (lenS T.len (by rfl) (ixt (pv 0) pe_int)) (pe_callB (call_sumL rfl) (by rfl) T.sum boot_sum (pa_cons (ixt (pv 0) pe_int) pa_nil)) (nomark _)))))))), ?_⟩
    rcases tup_case (K := K) t with ⟨ty, t1, k1, hf⟩ | ⟨a, xs, ds, rfl, rfl, e, rs⟩
    · rw [hf] at k
      exact ⟨_, rfl, _, _, _, _, rfl, t1, k1, false, rfl, iteT (k H (Same.refl _))⟩
    clear t
    by_cases h3 : xs.length = 3
    case neg =>
      rw [if_len (by rw [← trees_len rs]; exact h3)] at k
      refine ⟨_, rfl, _, _, _, _, rfl, .tup e, kit_tt, true, rfl, iteF ?_⟩
      refine ⟨_, rfl, a, _, rfl, .inr (SqT.of e), rfl, _, rfl, ?_⟩
      have hne : ¬ V.int (xs.length : Int) = V.int 3 := by
        intro z
        injection z with z'
        lia
      rw [decide_eq_false hne]
      exact iteT (k H (Same.refl _))
    obtain ⟨x, y, z, dx, dy, dz, rfl, rfl, tx, ty, tz⟩ := trees3 rs h3
    have shy : Sh dy := Nat.le_trans (weight_mem (ds := [dx, dy, dz]) (by simp)) (by simpa only [Sh, PyData.weight] using hsh)
    have shz : Sh dz := Nat.le_trans (weight_mem (ds := [dx, dy, dz]) (by simp)) (by simpa only [Sh, PyData.weight] using hsh)
    clear rs h3 hsh
    have no : ∀ H', Same H H' → isFrameD (.tuple [dx, dy, dz]) = false → Q (.bl false) H' := fun H' s' h => by rw [← h]; exact k H' s'
    refine ⟨_, rfl, _, _, _, _, rfl, .tup e, kit_tt, true, rfl, iteF ?_⟩
    refine ⟨_, rfl, a, _, rfl, .inr (SqT.of e), rfl, _, rfl, iteF ?_⟩
    refine ⟨_, rfl, _, _, _, _, rfl, rfl, SqT.of e, rfl, ⟨x, 2, 16, rfl, tree_thing tx, _, rfl, ?_⟩⟩
    rw [tree_betw tx]
    clear tx
    cases hb : betwD 2 16 dx with
    | false => exact iteT (no H (Same.refl _) (by simp [isFrameD, hb]))
    | true =>
    refine iteF ?_
    refine ⟨_, rfl, _, _, _, _, rfl, rfl, SqT.of e, rfl, ⟨y, dy, 1, 6, rfl, ty, shy, fun H1 s1 => ?_⟩⟩
    cases hy : rowD 1 6 dy with
    | false => exact ⟨_, rfl, iteT (no H1 s1 (by simp [isFrameD, hy]))⟩
    | true =>
    obtain ⟨b, vs, ys, rfl, edy, ey, hyl, ei, bi⟩ := tree_row ty hy
    clear ty
    refine ⟨_, rfl, iteF ?_⟩
    refine ⟨_, rfl, _, _, _, _, rfl, rfl, SqT.of (s1 _ _ e), rfl, ⟨b, _, rfl, .inl (SqL.of (s1 _ _ ey)), _, _, rfl, rfl, _, rfl, ?_⟩⟩
    refine iteD (fun h2' => ?_) (fun h2 => ⟨false, rfl, iteT (no H1 s1 (by simp [isFrameD, edy, lenD, show ¬ 2 ≤ ys.length by lia]))⟩)
    refine ⟨_, _, rfl, rfl, _, rfl, ?_⟩
    refine iteND (fun h4' => ?_) (fun h4 => no H1 s1 (by simp [isFrameD, edy, lenD, show ¬ ys.length ≤ 4 by lia]))
    have h2 : 2 ≤ ys.length := by lia
    have h4 : ys.length ≤ 4 := by lia
    clear h2' h4'
    refine ⟨_, rfl, _, _, _, _, rfl, rfl, SqT.of (s1 _ _ e), rfl, ⟨_, rfl, ⟨z, dz, -9, 9, rfl, tz.keep s1, shz, fun H2 s2 => ⟨_, rfl, ?_⟩⟩⟩⟩
    cases hz : rowD (-9) 9 dz with
    | false => exact iteF (no H2 (s1.trans s2) (by simp [isFrameD, hz]))
    | true =>
    obtain ⟨c, us, zs, rfl, edz, ez, hzl, _, _⟩ := tree_row tz hz
    have s12 := s1.trans s2
    refine iteT ?_
    refine ⟨_, rfl, _, _, _, _, rfl, rfl, SqT.of (s12 _ _ e), rfl, ⟨c, _, rfl, .inl (SqL.of (s12 _ _ ez)), ?_⟩⟩
    refine ⟨_, rfl, _, _, _, _, rfl, rfl, SqT.of (s12 _ _ e), rfl, ⟨b, ys.map valD, rfl, SqL.of (by rw [← ei]; exact s12 _ _ ey), ⟨by rw [List.length_map]; lia, fun n hn => by have := bi n hn; lia⟩, rfl, ?_⟩⟩
    have ef : decide (V.int (us.length : Int) = V.int (ys.map valD).sum) = isFrameD (.tuple [dx, dy, dz]) := by
      rw [edy] at hy ⊢
      rw [edz] at hz ⊢
      simp only [isFrameD, hb, hy, hz, lenD, sumD, decide_eq_true h2, decide_eq_true h4, Bool.and_self, Bool.true_and, ← hzl]
      by_cases q : (us.length : Int) = (ys.map valD).sum
      · rw [decide_eq_true q, decide_eq_true (by rw [q])]; simp [h2, h4]
      · rw [decide_eq_false q, decide_eq_false fun z => q (by injection z)]; simp
    rw [ef]
    exact k H2 s12
end
end Hv
namespace L2
open PySem PySem.Spec PyProof.Rows
section
variable {X : Cx}
end
end L2
namespace Hv
open PySem L2
theorem row_ints {lo hi : Int} {ns : List Int} : rowD lo hi (.list (ns.map PyData.int)) = ns.all fun n => decide (lo ≤ n) && decide (n ≤ hi) := by
  simp only [rowD, List.all_map]
  rfl
theorem frame_ints {b : Int} {ns ms : List Int} : isFrameD (.tuple [.int b, .list (ns.map .int), .list (ms.map .int)]) =
    ((decide (2 ≤ b) && decide (b ≤ 16)) && ((ns.all fun n => decide (1 ≤ n) && decide (n ≤ 6)) && (decide (2 ≤ ns.length) && decide (ns.length ≤ 4))) && ((ms.all fun n => decide (-9 ≤ n) && decide (n ≤ 9)) && decide ((ms.length : Int) = ns.sum))) := by
  simp only [isFrameD, row_ints, betwD, lenD, sumD, List.length_map, List.map_map]
  have e : (ns.map (valD ∘ PyData.int)) = ns := by
    have e0 : (valD ∘ PyData.int) = (id : Int → Int) := funext fun _ => rfl
    rw [e0, List.map_id]
  rw [e]
theorem int_weight {i : Int} (h : -1000 ≤ i ∧ i ≤ 1000) : (PyData.int i).weight ≤ 90 := by
  have hl : i.natAbs.log2 < 84 := by
    by_cases h0 : i.natAbs = 0
    · rw [h0]; decide
    · exact (Nat.log2_lt h0).mpr (Nat.lt_of_le_of_lt (show i.natAbs ≤ 1000 by lia) (by decide))
  simp only [PyData.weight]
  split <;> lia
theorem ints_weight : ∀ {ns : List Int}, (∀ n ∈ ns, -1000 ≤ n ∧ n ≤ 1000) → PyData.weightAll (ns.map PyData.int) ≤ ns.length * 91
  | [], _ => by simp [PyData.weightAll]
  | n :: r, h => by
    have h1 := int_weight (h n List.mem_cons_self)
    have h2 := ints_weight (ns := r) fun m hm => h m (List.mem_cons_of_mem _ hm)
    rw [List.map_cons]
    unfold PyData.weightAll
    rw [List.length_cons, Nat.add_mul]
    lia
theorem trees_ints' {H : Hp} : ∀ ns : List Int, Trees H (ns.map V.int) (ns.map PyData.int)
  | [] => .nil
  | n :: r => .cons (.int n) (trees_ints' r)
noncomputable def frT (b : Nat) (ps : List Nat) (ws : List Int) : PyData := .tuple [.int b, .list ((ps.map fun (p : Nat) => (p : Int)).map PyData.int), .list (ws.map PyData.int)]
theorem FrAt.tree {H : Hp} {f a c : Addr} {b : Nat} {ps : List Nat} {ws : List Int} (G : FrAt H f a c b ps ws) : Tree H (.ref f) (frT b ps ws) :=
  .tup G.tp (.cons (.int _) (.cons (.lst G.hp (by rw [natV_eq]; exact trees_ints' _)) (.cons (.lst G.hw (trees_ints' _)) .nil)))
theorem fr_sh {b : Nat} {ps : List Nat} {ws : List Int} (ok : FrOk b ps ws) : Sh (frT b ps ws) := by
  have h1 := ints_weight (ns := ps.map fun (p : Nat) => (p : Int)) fun n hn => by
    obtain ⟨p, hp, rfl⟩ := List.mem_map.mp hn
    have := ok.pr p hp
    lia
  have h2 := ints_weight (ns := ws) fun n hn => by have := ok.wr n hn; lia
  have h3 := int_weight (i := (b : Int)) (by have := ok.b16; lia)
  have l4 := ok.l4
  have hs := ok.sum
  have hw := ok.wl
  rw [List.length_map] at h1
  unfold Sh frT
  simp only [PyData.weight, PyData.weightAll] at h3 ⊢
  lia
theorem fr_isD {b : Nat} {ps : List Nat} {ws : List Int} (ok : FrOk b ps ws) : isFrameD (frT b ps ws) = true := by
  unfold frT
  rw [frame_ints]
  have e1 : ((ps.map fun (p : Nat) => (p : Int)).all fun n => decide (1 ≤ n) && decide (n ≤ 6)) = true := by
    rw [List.all_eq_true]
    intro n hn
    obtain ⟨p, hp, rfl⟩ := List.mem_map.mp hn
    have := ok.pr p hp
    simp only [Bool.and_eq_true, decide_eq_true_eq]
    lia
  have e2 : (ws.all fun n => decide (-9 ≤ n) && decide (n ≤ 9)) = true := by
    rw [List.all_eq_true]
    intro n hn
    have := ok.wr n hn
    simp only [Bool.and_eq_true, decide_eq_true_eq]
    lia
  have b2 := ok.b2
  have b16 := ok.b16
  have l2 := ok.l2
  have l4 := ok.l4
  have x1 : decide (2 ≤ (b : Int)) = true := decide_eq_true (by lia)
  have x2 : decide ((b : Int) ≤ 16) = true := decide_eq_true (by lia)
  have x3 : decide (2 ≤ ps.length) = true := decide_eq_true l2
  have x4 : decide (ps.length ≤ 4) = true := decide_eq_true l4
  have x5 : decide (((ps.sum : Nat) : Int) = ((ps.sum : Nat) : Int)) = true := decide_eq_true rfl
  rw [e1, e2, Ma.sum_cast, List.length_map, ok.wl, x1, x2, x3, x4, x5]
  rfl
end Hv
namespace Hv
open PySem L2
section
variable {P : Program} {w : World} {K : PySem.W.Frag} {mg : Str → Option Value} {base : Heap}
theorem scNeedFrame : FnScope ["thing"] ["thing"] (defScope sNeedFrame) := ⟨rfl, rfl, rfl, by decide +kernel, rfl, by decide +kernel, by decide +kernel⟩
theorem ok_needframe {f : Addr} {fd : FuncData} (F : Fun K "need_frame" "need_frame" sNeedFrame f fd) (D4 : Def P w K mg base 4 "is_frame" ["thing"] spIsFrame) : FnOk P w K mg base CX0 5 f fd ["thing"] spNeedFrame := by
  refine F.ok scNeedFrame (fun vs H Q E h => ?_) (fun cdv A outer s H vs Q E hr h => ?_)
  · obtain ⟨g, a, c, b, ps, ws, rfl, _⟩ := h; rfl
  · obtain ⟨g, a, c, b, ps, ws, rfl, G, k⟩ := h
    refine ⟨_, pss_one (ps_if (pt_not (pt_val (pe_fn D4 hr (by rfl) (pa_cons (pv 0) pa_nil)))) pss_never pss_nil), ?_⟩
    exact ⟨_, rfl, g, a, c, b, ps, ws, rfl, G, fun H1 s1 => ⟨_, rfl, iteF (k H1 s1)⟩⟩

end
end Hv
namespace L2
open PySem PySem.Spec PyProof.Rows
theorem strs_are : ∀ {ys : List Str} {its : List Value}, Vals (ys.map V.str) its → StrsAre its ys
  | [], _, .nil => .nil
  | y :: r, _, .cons h t => by
    obtain ⟨tk, rfl⟩ := h
    exact .cons _ _ (strs_are t)
theorem vals_strs : ∀ l : List (Str × Tok), Vals ((l.map (·.1)).map V.str) (strValues l)
  | [] => .nil
  | (y, t) :: r => .cons ⟨t, rfl⟩ (vals_strs r)
section
variable {X : Cx}
noncomputable def rJoin : V → List V → Hp → VK → Prop := fun x vs H Q => ∃ (sep : Str) (l : Addr) (ys : List Str), x = .str sep ∧ vs = [.ref l] ∧ H l = some (.lst (ys.map V.str)) ∧ (ys.map (·.length)).sum + ys.length * sep.length ≤ 16777216 ∧ Q (.str (Txt.join sep ys)) H
theorem mt_join : MtR X "str.join" rJoin := by
  intro pins s σ H x vs v us Q I rx rv h
  obtain ⟨sep, l, ys, rfl, rfl, hl, hz, q⟩ := h
  obtain ⟨t, rfl⟩ := rx
  obtain ⟨u, rfl, ru⟩ := rv.one
  cases ru
  obtain ⟨its, r, pl, _⟩ := I.list (SqL.of hl)
  exact join_list pl.isList (by simpa using strs_are r) hz fun t' k => ⟨.str _, H, I.tok k, ⟨_, rfl⟩, q⟩
noncomputable def rStarts : V → List V → Hp → VK → Prop := fun x vs H Q => ∃ a b : Str, x = .str a ∧ vs = [.str b] ∧ Q (.bl (Txt.startswith a b)) H
theorem mt_startswith : MtR X "str.startswith" rStarts := by
  intro pins s σ H x vs v us Q I rx rv h
  obtain ⟨a, b, rfl, rfl, q⟩ := h
  obtain ⟨t, rfl⟩ := rx
  obtain ⟨u, rfl, ru⟩ := rv.one
  obtain ⟨t', rfl⟩ := ru
  exact SC.startswith ⟨.bl _, H, I, rfl, q⟩
theorem call_int_text : CallR X (.type "int") (fun xs H Q => ∃ (z : Str) (n : Int), xs = [.str z] ∧ PySem.intText? z = some n ∧ z.length ≤ 640 ∧ Q (.int n) H) := by
  intro pins s σ H xs us Q I r h
  obtain ⟨z, n, rfl, hn, hl, q⟩ := h
  obtain ⟨u, rfl, t, rfl⟩ := vals1 r
  exact PySem.W.KIN.call_text hn hl ⟨.int n, H, I.tok _, ⟨_, rfl⟩, q⟩
noncomputable def rSplit : V → List V → Hp → VK → Prop := fun x vs H Q => ∃ a b : Str, x = .str a ∧ vs = [.str b] ∧ (b.length == 0) = false ∧ a.length ≤ sizeLine ∧ (Txt.split a b).length ≤ sizeLine ∧ ∀ l, H l = none → Q (.ref l) (upd H l (.lst ((Txt.split a b).map V.str)))
theorem mt_split : MtR X "str.split" rSplit := by
  intro pins s σ H x vs v us Q I rx rv h
  obtain ⟨a, b, rfl, rfl, hb, hz, hz2, q⟩ := h
  obtain ⟨t, rfl⟩ := rx
  obtain ⟨u, rfl, ru⟩ := rv.one
  obtain ⟨t', rfl⟩ := ru
  have fin : ∀ (l : List (Str × Tok)) (k : Nat) (n : Nat), l.map (·.1) = Txt.split a b → EP X pins σ Q (.ref s.heap.objs.size) { s with heap := s.heap.push { cls := .type "list", data := .seq (strValues l).toArray n }, toks := k } := fun l k n hl => by
    refine ⟨.ref s.heap.objs.size, _, I.laid (t' := k) (o := .lst ((Txt.split a b).map V.str)) (fun b ob q => Heap.get?_push_of_some _ q) (Nat.le_refl _) ?_, rfl, q _ (I.hok.fresh (Nat.le_refl _))⟩
    refine ⟨by rw [List.length_map]; exact hz2, strValues l, n, ?_, Heap.get?_push_size _ rfl⟩
    rw [← hl]
    exact vals_strs l
  have args := F.args_str_split_2 (.str a t) (.str b t')
  cases near : (decide (a.length < b.length) || decide (Builtin.Str.strKind a < Builtin.Str.strKind b)) with
  | true => exact call_meets F.slot_str_split (typeIs_str _ _ _) F.entry_str_split args (meets_str_split_cannot_occur a b t t' near) (fin [(a, t)] _ 0 (if_pos near).symm)
  | false =>
    cases none : (Builtin.Str.occurrences a b 0 a.length (a.length + 1)).isEmpty with
    | true => exact call_meets F.slot_str_split (typeIs_str _ _ _) F.entry_str_split args (meets_str_split_not_found a b t t' near hb none) (fin [(a, t)] _ 0 ((if_neg (ne_true_of_eq_false near)).trans (if_pos none)).symm)
    | false =>
      have e : Txt.split a b = Builtin.Str.partsBetween a (Builtin.Str.occurrences a b 0 a.length (a.length + 1)) b.length := (if_neg (ne_true_of_eq_false near)).trans (if_neg (ne_true_of_eq_false none))
      refine call_meets F.slot_str_split (typeIs_str _ _ _) F.entry_str_split args (meets_str_split_sep a b t t' near hb none hz (by rw [← e]; exact hz2)) ?_
      rw [strsFrom_eq]
      exact fin (numbered s.toks _) _ 0 ((numbered_texts _ _).trans e.symm)
noncomputable def rSlS : V → Option Int → Option Int → Hp → VK → Prop := fun x lo hi H Q => ∃ z, x = .str z ∧ z.length ≤ sizeLine ∧ Q (.str (Txt.slice z lo hi)) H
theorem sl_str : SlR X rSlS := by
  intro pins s σ H x v vl vu lo hi sl Q I rx hs pl pu h
  obtain ⟨z, rfl, hz, q⟩ := h
  obtain ⟨t, rfl⟩ := rx
  refine ⟨"str", _, F.slot_str_getitem.lookup, typeIs_str _ _ _, ?_⟩
  obtain ⟨l, rfl, rfl⟩ : ∃ l : Option (Int × Tok), vl = partValue l ∧ lo = l.map (·.1) := by
    cases pl with
    | none => exact ⟨none, rfl, rfl⟩
    | int i t => exact ⟨some (i, t), rfl, rfl⟩
  obtain ⟨u, rfl, rfl⟩ : ∃ u : Option (Int × Tok), vu = partValue u ∧ hi = u.map (·.1) := by
    cases pu with
    | none => exact ⟨none, rfl, rfl⟩
    | int i t => exact ⟨some (i, t), rfl, rfl⟩
  obtain ⟨o, ho, hc, hd⟩ := hs
  exact wpAny_getItem_str_slice (l := l) (u := u) (st := none) ⟨o, ho, hc, hd⟩ rfl (post_val_or_str ⟨Nat.le_trans (Txt.slice_le z _ _) hz, fun t' k => ⟨.str _, H, I.tok k, ⟨_, rfl⟩, q⟩⟩)
end
noncomputable def Its (z : Str) : It := ⟨fun i _ => i < z.cps.size, fun i H x H' => H' = H ∧ ∃ c, z.cps[i]? = some c ∧ x = .str ⟨#[c]⟩, fun i _ => z.cps.size ≤ i⟩
theorem turn_str {P : Program} {w : World} {K : PySem.W.Frag} {tg : Expr} {z : Str} {t : Tok} {it : Addr} : Turn P w K tg (Its z) [it] it (fun i h => h.IsStrIter it "str_ascii_iterator" z t i) where
  mem := by simp
  obj := fun i h st b hb => by
    have e : b = it := by simpa using hb
    subst e
    obtain ⟨o, e, c, d⟩ := st
    exact ⟨o, e, fun v z => by rw [d] at z; cases z⟩
  keep := fun i h h' st k => by
    obtain ⟨o, e, c, d⟩ := st
    exact ⟨o, k it (by simp) o e, c, d⟩
  item := by
    intro X hP hw hK hc i pins s σ H E I hf st hg
    subst hP hw hK
    obtain ⟨f0, f1, f2, f3, f4, f5⟩ := hf it (by simp)
    have hi : i < z.cps.size := hg
    have hx : z.cps[i]? = some z.cps[i] := Array.getElem?_eq_getElem hi
    refine wpAny_pyNext_ascii_item st hx fun h' st' sb => ?_
    have I1 : Inv X pins σ H { s with heap := h', toks := s.toks + 1 } := I.turned (t' := s.toks + 1) (fun b o hb e => (sb.2 b hb).trans e) f0 f1 f3 f4 f5
    obtain ⟨o, e, c, d⟩ := id st'
    exact ⟨_, rfl, go_of (s := { s with heap := h', toks := s.toks + 1 }) e c d (by decide) ⟨.str ⟨#[z.cps[i]]⟩, H, I1, ⟨_, rfl⟩, ⟨rfl, _, hx, rfl⟩, st', fun b hb => (hf b hb).1⟩⟩
  done := by
    intro X hP hw hK hc i pins s σ H E I hf st hg
    subst hP hw hK
    obtain ⟨f0, f1, f2, f3, f4, f5⟩ := hf it (by simp)
    exact wpAny_pyNext_ascii_end (I.ok.hd hc) st (by simp [show z.cps.size ≤ i from hg]) fun h' eb => ⟨rfl, I.turned (t' := s.toks) (fun b o hb e => eb b o hb e) f0 f1 f3 f4 f5⟩
  self := fun _ _ _ _ _ st h => wpAny_pyIter_striter_ascii st h
noncomputable def iStr (tl : TE) : TI := fun σ H R => tl σ H fun x H1 => ∃ z : Str, x = .str z ∧ z.cps.all (· < 128) = true ∧ R (Its z) H1
theorem pi_str {X : Cx} {tg l : Expr} {tl : TE} (hl : PE X l tl) : PI X tg l (iStr tl) := by
  intro pins s σ H R I h
  refine thn (hl pins s σ H _ I h) fun v s1 ⟨x, H1, I1, r1, q1⟩ => ?_
  obtain ⟨z, e, ha, q⟩ := q1
  subst e
  obtain ⟨t, rfl⟩ := r1
  refine wpAny_pyIter_ascii ha ?_
  refine ⟨s1.heap.objs.size, [s1.heap.objs.size], _, _, _, rfl, I1.kept (t' := s1.toks) fun b o e => Heap.get?_push_of_some _ e, turn_str (z := z) (t := t), ⟨_, Heap.get?_push_size _ rfl, rfl, rfl⟩, fun b hb => ?_, q⟩
  have e : b = s1.heap.objs.size := by simpa using hb
  subst e
  exact I1.fpOk (Nat.le_refl _) (I1.hok.fresh (Nat.le_refl _))
theorem comp_str {z : Str} {G : V → Hp → (List V → Hp → Prop) → List V → Prop} {Fin : List V → Hp → Prop} {H : Hp} (Pv : Nat → List V → Hp → Prop) (h0 : Pv 0 [] H)
    (hs : ∀ i c ys H, z.cps[i]? = some c → Pv i ys H → ys.length < sizeLine ∧ G (.str ⟨#[c]⟩) H (Pv (i + 1)) ys) (hd : ∀ ys H, Pv z.cps.size ys H → Fin ys H) :
    ∃ W : Nat → Nat → List V → Hp → Prop, (∃ m, W 0 m [] H) ∧ ∀ i m ys H, W i m ys H →
      ((Its z).stop i H ∧ Fin ys H) ∨ ((Its z).go i H ∧ ys.length < sizeLine ∧ ∃ Nx : List V → Hp → Prop, (∀ ys' H', Nx ys' H' → ∃ m', m' < m ∧ W (i + 1) m' ys' H') ∧ ∀ x H', (Its z).yld i H x H' → G x H' Nx ys) := by
  refine ⟨fun i m ys H => m = z.cps.size - i ∧ i ≤ z.cps.size ∧ Pv i ys H, ⟨z.cps.size, by simp, Nat.zero_le _, h0⟩, ?_⟩
  rintro i m ys H ⟨rfl, hi, p⟩
  by_cases hlt : i < z.cps.size
  · have hx : z.cps[i]? = some z.cps[i] := Array.getElem?_eq_getElem hlt
    obtain ⟨a1, a2⟩ := hs i _ ys H hx p
    refine .inr ⟨hlt, a1, Pv (i + 1), fun ys' H' p' => ⟨z.cps.size - (i + 1), by omega, rfl, hlt, p'⟩, fun x H' y => ?_⟩
    obtain ⟨e, c, hc, ex⟩ := y
    rw [hx] at hc
    cases hc
    subst e ex
    exact a2
  · have e : i = z.cps.size := by omega
    subst e
    exact .inl ⟨Nat.le_refl _, hd ys H p⟩
end L2
namespace Mt
open PySem
theorem ext_list {a b : Str} (h : a.cps.toList = b.cps.toList) : a = b := Str.ext' (Array.toList_inj.mp h)
theorem app_list (a b : Str) : (a ++ b).cps.toList = a.cps.toList ++ b.cps.toList := by
  rw [show (a ++ b).cps = a.cps ++ b.cps from rfl, Array.toList_append]
noncomputable def one (c : Nat) : Str := ⟨#[c]⟩
theorem join_two (c : Nat) (a b : Str) (r : List Str) : (Str.join (one c) (a :: b :: r)).cps.toList = a.cps.toList ++ c :: (Str.join (one c) (b :: r)).cps.toList := by
  show ((a ++ one c) ++ Str.join (one c) (b :: r)).cps.toList = _
  rw [app_list, app_list]
  simp [one]
theorem cut_same {c : Nat} : ∀ {a a' r r' : List Nat}, c ∉ a → c ∉ a' → a ++ c :: r = a' ++ c :: r' → a = a' ∧ r = r'
  | [], [], r, r', _, _, e => ⟨rfl, by simpa using e⟩
  | [], y :: b, r, r', _, h', e => by
    simp only [List.nil_append, List.cons_append, List.cons.injEq] at e
    exact absurd e.1 fun z => h' (by simp [z])
  | x :: a, [], r, r', h, _, e => by
    simp only [List.nil_append, List.cons_append, List.cons.injEq] at e
    exact absurd e.1.symm fun z => h (by simp [z])
  | x :: a, y :: b, r, r', h, h', e => by
    simp only [List.cons_append, List.cons.injEq] at e
    obtain ⟨e1, e2⟩ := cut_same (fun z => h (by simp [z])) (fun z => h' (by simp [z])) e.2
    exact ⟨by rw [e.1, e1], e2⟩
theorem join_inj {c : Nat} : ∀ {ps qs : List Str}, ps ≠ [] → qs ≠ [] → (∀ p ∈ ps, c ∉ p.cps.toList) → (∀ p ∈ qs, c ∉ p.cps.toList) → Str.join (one c) ps = Str.join (one c) qs → ps = qs
  | [], _, h, _, _, _, _ => absurd rfl h
  | _ :: _, [], _, h, _, _, _ => absurd rfl h
  | [a], [b], _, _, _, _, e => by rw [show a = b from e]
  | [a], b :: b' :: r, _, _, ha, _, e => by
    exfalso
    have e' := congrArg (fun x : Str => x.cps.toList) e
    simp only [join_two] at e'
    exact ha a (by simp) (by
      show c ∈ a.cps.toList
      rw [show a.cps.toList = b.cps.toList ++ c :: (Str.join (one c) (b' :: r)).cps.toList from e']
      simp)
  | a :: a' :: r, [b], _, _, _, hb, e => by
    exfalso
    have e' := congrArg (fun x : Str => x.cps.toList) e
    simp only [join_two] at e'
    exact hb b (by simp) (by
      rw [← show a.cps.toList ++ c :: (Str.join (one c) (a' :: r)).cps.toList = b.cps.toList from e']
      simp)
  | a :: a' :: r, b :: b' :: r', _, _, ha, hb, e => by
    have e' := congrArg (fun x : Str => x.cps.toList) e
    simp only [join_two] at e'
    obtain ⟨e1, e2⟩ := cut_same (ha a (by simp)) (hb b (by simp)) e'
    have ih := join_inj (ps := a' :: r) (qs := b' :: r') (by simp) (by simp) (fun p hp => ha p (List.mem_cons_of_mem _ hp)) (fun p hp => hb p (List.mem_cons_of_mem _ hp)) (ext_list e2)
    rw [ext_list e1, ih]
theorem split_ne (x y : Str) : Txt.split x y ≠ [] := by
  unfold Txt.split
  split
  · simp
  · split
    · simp
    · rw [StrLaws.partsBetween_eq]
      obtain ⟨p, r, e⟩ := StrLaws.partsFrom_ne x y.length 0 (Builtin.Str.occurrences x y 0 x.length (x.length + 1))
      rw [e]
      simp
theorem split_join {c : Nat} {ps : List Str} (h : ps ≠ []) (hf : ∀ p ∈ ps, c ∉ p.cps.toList) : Txt.split (Txt.join (one c) ps) (one c) = ps := by
  rw [show Txt.join (one c) ps = Str.join (one c) ps from StrLaws.glued_eq_join _ _]
  exact join_inj (split_ne _ _) h (StrLaws.split_free _ c) hf (StrLaws.join_split _ _)
theorem mem_join {c d : Nat} : ∀ {ps : List Str}, d ∈ (Str.join (one c) ps).cps.toList → d = c ∨ ∃ p ∈ ps, d ∈ p.cps.toList
  | [], h => by simp [Str.join, Str.empty] at h
  | [a], h => .inr ⟨a, by simp, h⟩
  | a :: b :: r, h => by
    rw [join_two] at h
    rcases List.mem_append.mp h with h | h
    · exact .inr ⟨a, by simp, h⟩
    · rcases List.mem_cons.mp h with h | h
      · exact .inl h
      · rcases mem_join h with h | ⟨p, hp, h⟩
        · exact .inl h
        · exact .inr ⟨p, List.mem_cons_of_mem _ hp, h⟩
noncomputable def txt (i : Int) : Str := Str.ofString (toString i)
noncomputable def okSign (c : Nat) : Bool := c == 45 || (48 ≤ c && c ≤ 57)
noncomputable def okTxt (i : Int) : Bool := (txt i).cps.toList.all okSign && decide ((txt i).length ≤ 3) && decide (1 ≤ (txt i).length) && (PySem.intText? (txt i) == some i)
theorem ok_small : ∀ k : Fin 30, okTxt ((k : Int) - 9) = true := by decide +kernel
theorem ok_txt {i : Int} (h : -9 ≤ i ∧ i ≤ 20) : okTxt i = true := by
  have := ok_small ⟨(i + 9).toNat, by lia⟩
  have e : (((⟨(i + 9).toNat, by lia⟩ : Fin 30) : Nat) : Int) - 9 = i := by show (((i + 9).toNat : Nat) : Int) - 9 = i; lia
  rw [e] at this
  exact this
theorem txt_int {i : Int} (h : -9 ≤ i ∧ i ≤ 20) : PySem.intText? (txt i) = some i := by
  have := ok_txt h
  simp only [okTxt, Bool.and_eq_true, beq_iff_eq] at this
  exact this.2
theorem txt_len {i : Int} (h : -9 ≤ i ∧ i ≤ 20) : 1 ≤ (txt i).length ∧ (txt i).length ≤ 3 := by
  have := ok_txt h
  simp only [okTxt, Bool.and_eq_true, decide_eq_true_eq] at this
  exact ⟨this.1.2, this.1.1.2⟩
theorem txt_sign {i : Int} (h : -9 ≤ i ∧ i ≤ 20) {c : Nat} (hc : c ∈ (txt i).cps.toList) : c = 45 ∨ (48 ≤ c ∧ c ≤ 57) := by
  have := ok_txt h
  simp only [okTxt, Bool.and_eq_true] at this
  have := List.all_eq_true.mp this.1.1.1 c hc
  simpa [okSign] using this
theorem txt_free {i : Int} (h : -9 ≤ i ∧ i ≤ 20) {d : Nat} (hd : d = 58 ∨ d = 43 ∨ d = 32) : d ∉ (txt i).cps.toList := fun hc => by
  have := txt_sign h hc
  lia
noncomputable def pText (ps : List Nat) : Str := Txt.join (one 43) (ps.map fun (p : Nat) => txt (p : Int))
noncomputable def wText (ws : List Int) : Str := Txt.join (one 32) (ws.map txt)
noncomputable def fText (b : Nat) (ps : List Nat) (ws : List Int) : Str := Txt.join (one 58) [txt (b : Int), pText ps, wText ws]
theorem p_free {ps : List Nat} (h : ∀ p ∈ ps, p ≤ 16) : 58 ∉ (pText ps).cps.toList := fun hc => by
  rw [show pText ps = Str.join (one 43) (ps.map fun (p : Nat) => txt (p : Int)) from StrLaws.glued_eq_join _ _] at hc
  rcases mem_join hc with z | ⟨q, hq, z⟩
  · cases z
  · obtain ⟨p, hp, rfl⟩ := List.mem_map.mp hq
    have := h p hp
    exact txt_free (by lia) (.inl rfl) z
theorem w_free {ws : List Int} (h : ∀ x ∈ ws, -9 ≤ x ∧ x ≤ 9) : 58 ∉ (wText ws).cps.toList := fun hc => by
  rw [show wText ws = Str.join (one 32) (ws.map txt) from StrLaws.glued_eq_join _ _] at hc
  rcases mem_join hc with z | ⟨q, hq, z⟩
  · cases z
  · obtain ⟨p, hp, rfl⟩ := List.mem_map.mp hq
    have := h p hp
    exact txt_free (by lia) (.inl rfl) z
theorem p_split {ps : List Nat} (h0 : ps ≠ []) (h : ∀ p ∈ ps, p ≤ 16) : Txt.split (pText ps) (one 43) = ps.map fun (p : Nat) => txt (p : Int) :=
  split_join (by simpa using h0) fun q hq => by
    obtain ⟨p, hp, rfl⟩ := List.mem_map.mp hq
    have := h p hp
    exact txt_free (by lia) (.inr (.inl rfl))
theorem w_split {ws : List Int} (h0 : ws ≠ []) (h : ∀ x ∈ ws, -9 ≤ x ∧ x ≤ 9) : Txt.split (wText ws) (one 32) = ws.map txt :=
  split_join (by simpa using h0) fun q hq => by
    obtain ⟨p, hp, rfl⟩ := List.mem_map.mp hq
    have := h p hp
    exact txt_free (by lia) (.inr (.inr rfl))
theorem f_split {b : Nat} {ps : List Nat} {ws : List Int} (hb : b ≤ 16) (hp : ∀ p ∈ ps, p ≤ 16) (hw : ∀ x ∈ ws, -9 ≤ x ∧ x ≤ 9) : Txt.split (fText b ps ws) (one 58) = [txt (b : Int), pText ps, wText ws] :=
  split_join (by simp) fun q hq => by
    simp only [List.mem_cons, List.not_mem_nil, or_false] at hq
    rcases hq with rfl | rfl | rfl
    · exact txt_free (by lia) (.inl rfl)
    · exact p_free hp
    · exact w_free hw
theorem txt_inj {i j : Int} (hi : -9 ≤ i ∧ i ≤ 20) (hj : -9 ≤ j ∧ j ≤ 20) (e : txt i = txt j) : i = j := by
  have := txt_int hi
  rw [e, txt_int hj] at this
  exact (Option.some.inj this).symm
theorem map_inj {α : Type} {f : α → Str} : ∀ {xs ys : List α}, (∀ x ∈ xs, ∀ y ∈ ys, f x = f y → x = y) → xs.map f = ys.map f → xs = ys
  | [], [], _, _ => rfl
  | [], _ :: _, _, e => by simp at e
  | _ :: _, [], _, e => by simp at e
  | x :: xs, y :: ys, h, e => by
    simp only [List.map_cons, List.cons.injEq] at e
    rw [h x (by simp) y (by simp) e.1, map_inj (fun a ha b hb => h a (List.mem_cons_of_mem _ ha) b (List.mem_cons_of_mem _ hb)) e.2]
theorem f_inj {b b' : Nat} {ps ps' : List Nat} {ws ws' : List Int} (hb : b ≤ 16) (hp : ∀ p ∈ ps, p ≤ 16) (hw : ∀ x ∈ ws, -9 ≤ x ∧ x ≤ 9) (hb' : b' ≤ 16) (hp' : ∀ p ∈ ps', p ≤ 16) (hw' : ∀ x ∈ ws', -9 ≤ x ∧ x ≤ 9)
    (n1 : ps ≠ []) (n2 : ps' ≠ []) (n3 : ws ≠ []) (n4 : ws' ≠ []) (e : fText b ps ws = fText b' ps' ws') : b = b' ∧ ps = ps' ∧ ws = ws' := by
  have e1 := f_split hb hp hw
  rw [e, f_split hb' hp' hw'] at e1
  simp only [List.cons.injEq, and_true] at e1
  obtain ⟨x1, x2, x3⟩ := e1
  refine ⟨?_, ?_, ?_⟩
  · have := txt_inj (i := (b' : Int)) (j := (b : Int)) (by lia) (by lia) x1
    lia
  · have e2 := p_split n1 hp
    rw [← x2, p_split n2 hp'] at e2
    refine (map_inj (fun x hx y hy z => ?_) e2).symm
    have h1 := hp' x hx
    have h2 := hp y hy
    have := txt_inj (by lia) (by lia) z
    lia
  · have e2 := w_split n3 hw
    rw [← x3, w_split n4 hw'] at e2
    refine (map_inj (fun x hx y hy z => ?_) e2).symm
    have h1 := hw' x hx
    have h2 := hw y hy
    exact txt_inj (by lia) (by lia) z
theorem f_three (a p w : Str) : Txt.join (one 58) [a, p, w] = a ++ one 58 ++ p ++ one 58 ++ w := by
  rw [show Txt.join (one 58) [a, p, w] = Str.join (one 58) [a, p, w] from StrLaws.glued_eq_join _ _]
  show a ++ one 58 ++ (p ++ one 58 ++ w) = _
  apply ext_list
  simp only [app_list, List.append_assoc]
theorem colon : Str.ofString ":" = one 58 := by decide +kernel
theorem plus : Str.ofString "+" = one 43 := by decide +kernel
theorem space : Str.ofString " " = one 32 := by decide +kernel
end Mt
namespace Hv
open PySem L2
theorem boot_str : bootBuiltins "str" = some (.type "str") := PyProof.Rows.boot_str
noncomputable abbrev figs : Str := "0123456789"
noncomputable def spJoinedBy : Sp := fun vs H Q _ => ∃ (c : Nat) (a : Addr) (ns : List Int), vs = [.str (Mt.one c), .ref a] ∧ H a = some (.lst (ns.map V.int)) ∧ ns.length ≤ 30 ∧ (∀ n ∈ ns, -9 ≤ n ∧ n ≤ 16) ∧ ∀ H', Same H H' → Q (.str (Txt.join (Mt.one c) (ns.map Mt.txt))) H'
noncomputable def spShow : Sp := fun vs H Q _ => ∃ f a c b ps ws, vs = [.ref f] ∧ FrAt H f a c b ps ws ∧ ∀ H', Same H H' → Q (.str (Mt.fText b ps ws)) H'
section
variable {X : Cx} {a : Expr} {ta : TE} {p pos : Pos}
theorem lenT (hm : X.mg "len" = none) (hg : Gl X "len") (ha : PE X a ta) (hs : starEach [a] X.env = [(false, eval a X.env)] := by rfl) :
    PE X (.Call (.Name "len" p) [a] [] pos) (tCB (fun xs H Q => ∃ z, xs = [.str z] ∧ z.length ≤ sizeLine ∧ Q (.int z.length) H) (tCons ta tNil)) := pe_callB call_len_str hg hm PySem.boot_len (pa_cons ha pa_nil hs) (he := hs)
end
section
variable {P : Program} {w : World} {K : PySem.W.Frag} {mg : Str → Option Value} {base : Heap}
theorem scWritten : FnScope ["text", "most"] ["text", "most"] (defScope sWritten) := ⟨rfl, rfl, rfl, by decide +kernel, rfl, by decide +kernel, by decide +kernel⟩
theorem scWrittenS : FnScope ["text", "most"] ["text", "most"] (defScope sWrittenS) := ⟨rfl, rfl, rfl, by decide +kernel, rfl, by decide +kernel, by decide +kernel⟩
theorem scJoinedBy : FnScope ["sign", "numbers"] ["sign", "numbers"] (defScope sJoinedBy) := ⟨rfl, rfl, rfl, by decide +kernel, rfl, by decide +kernel, by decide +kernel⟩
theorem small_log {n : Int} (h : n.natAbs < 32) : n.natAbs.log2 < 1920 := by
  by_cases h0 : n.natAbs = 0
  · rw [h0]; decide
  · exact Nat.lt_of_lt_of_le ((Nat.log2_lt h0).mpr (show n.natAbs < 2 ^ 5 by lia)) (by decide)
theorem txt_sum : ∀ {ns : List Int}, (∀ n ∈ ns, -9 ≤ n ∧ n ≤ 16) → ((ns.map Mt.txt).map (·.length)).sum ≤ 3 * ns.length
  | [], _ => by simp
  | n :: r, h => by
    have h1 := (Mt.txt_len (i := n) (by have := h n List.mem_cons_self; lia)).2
    have h2 := txt_sum (ns := r) fun m hm => h m (List.mem_cons_of_mem _ hm)
    simp only [List.map_cons, List.sum_cons, List.length_cons]
    lia
theorem ok_joinedby {f : Addr} {fd : FuncData} (F : Fun K "joined_by" "joined_by" sJoinedBy f fd) (hS : mg "str" = none) : FnOk P w K mg base CX0 1 f fd ["sign", "numbers"] spJoinedBy := by
  refine F.ok scJoinedBy (fun vs H Q E h => ?_) (fun cdv A outer s H vs Q E hr h => ?_)
  · obtain ⟨c, a, ns, rfl, _⟩ := h; rfl
  · obtain ⟨c, a, ns, rfl, ha, hl, hn, k⟩ := h
    refine ⟨_, pss_one (ps_ret (pe_bm PySem.F.plainAttrs_str PySem.F.slot_str_join PySem.F.type_str_join mt_join (pv 0) (pa_cons (pe_cmp1 (defScope sJoinedBy) ["sign", "numbers"] [] [] rfl (pi_list (pv 1)) (fun cl C s H fp => pf_nil) (fun cl C s H fp => pe_callTy call_str_int (by rfl) hS boot_str (pa_cons (pv 0) pa_nil)) (by decide +kernel)) pa_nil))), ?_⟩
    refine ⟨_, rfl, rfl, _, rfl, a, rfl, ⟨_, SqL.of ha⟩, comp_list (K := K) (a := a) (xs := ns.map V.int) (fun i ys H2 => ys = ((ns.take i).map Mt.txt).map V.str ∧ Same H H2) ⟨by simp, Same.refl _⟩ (fun i ys H2 _ p => SqL.of (p.2 _ _ ha)) ?_ ?_⟩
    · rintro i x ys H2 hx ⟨rfl, s2⟩
      obtain ⟨n, hn', rfl⟩ : ∃ n : Int, ns[i]? = some n ∧ x = .int n := by
        rw [List.getElem?_map] at hx
        cases e : ns[i]? with
        | none => rw [e] at hx; cases hx
        | some n => rw [e] at hx; exact ⟨n, rfl, (Option.some.inj hx).symm⟩
      have hb := hn n (List.mem_of_getElem? hn')
      refine ⟨szl (by simp; lia), _, rfl, n, rfl, ?_, ?_, s2⟩
      · exact small_log (by lia)
      · rw [List.take_add_one, hn']
        simp [Mt.txt]
    · rintro ys H2 ⟨rfl, s2⟩ l hl'
      rw [List.length_map, List.take_length]
      refine ⟨_, l, ns.map Mt.txt, rfl, rfl, upd_same, ?_, k _ (same_upd2 s2 (s2.free hl'))⟩
      have := txt_sum hn
      rw [List.length_map]
      show _ + ns.length * 1 ≤ _
      lia
theorem join_len (c : Nat) (ys : List Str) : (Txt.join (Mt.one c) ys).length ≤ (ys.map (·.length)).sum + ys.length := by
  rw [show (Txt.join (Mt.one c) ys).length = (ys.map (·.length)).sum + (ys.length - 1) * (Mt.one c).length from size_glued _ _]
  show _ + (ys.length - 1) * 1 ≤ _
  lia
theorem w_len {ws : List Int} (h : ∀ x ∈ ws, -9 ≤ x ∧ x ≤ 9) : (Mt.wText ws).length ≤ 4 * ws.length := by
  have h1 := join_len 32 (ws.map Mt.txt)
  have h2 := txt_sum (ns := ws) fun n hn => by have := h n hn; lia
  rw [List.length_map] at h1
  unfold Mt.wText
  lia
theorem p_len {ps : List Nat} (h : ∀ p ∈ ps, p ≤ 16) : (Mt.pText ps).length ≤ 4 * ps.length := by
  have e : Mt.pText ps = Txt.join (Mt.one 43) ((ps.map fun (p : Nat) => (p : Int)).map Mt.txt) := by rw [List.map_map]; rfl
  have h1 := join_len 43 ((ps.map fun (p : Nat) => (p : Int)).map Mt.txt)
  have h2 := txt_sum (ns := ps.map fun (p : Nat) => (p : Int)) fun n hn => by
    obtain ⟨p, hp, rfl⟩ := List.mem_map.mp hn
    have := h p hp
    lia
  rw [List.length_map, List.length_map] at h1
  rw [List.length_map] at h2
  rw [e]
  lia
theorem scShow : FnScope ["frame"] ["frame"] (defScope sShowFrame) := ⟨rfl, rfl, rfl, by decide +kernel, rfl, by decide +kernel, by decide +kernel⟩
theorem ok_show {f : Addr} {fd : FuncData} (F : Fun K "show_frame" "show_frame" sShowFrame f fd) (hS : mg "str" = none) (D5 : Def P w K mg base 5 "need_frame" ["thing"] spNeedFrame) (DJ : Def P w K mg base 1 "joined_by" ["sign", "numbers"] spJoinedBy) : FnOk P w K mg base CX0 6 f fd ["frame"] spShow := by
  refine F.ok scShow (fun vs H Q E h => ?_) (fun cdv A outer s H vs Q E hr h => ?_)
  · obtain ⟨g, a, c, b, ps, ws, rfl, _⟩ := h; rfl
  · obtain ⟨g, a, c, b, ps, ws, rfl, G, k⟩ := h
    have ok := G.ok
    refine ⟨_, pss_cons (ps_expr (pe_fn D5 hr (by rfl) (pa_cons (pv 0) pa_nil)))
      (pss_one (ps_ret (pe_bm PySem.F.plainAttrs_str PySem.F.slot_str_join PySem.F.type_str_join mt_join pe_str (pa_cons (pe_lst (pa_cons (pe_callTy call_str_int (by rfl) hS boot_str (pa_cons (ixt (pv 0) pe_int) pa_nil)) (pa_cons (pe_fn DJ (hr.mono (by decide)) (by rfl) (pa_cons pe_str (pa_cons (ixt (pv 0) pe_int) pa_nil))) (pa_cons (pe_fn DJ (hr.mono (by decide)) (by rfl) (pa_cons pe_str (pa_cons (ixt (pv 0) pe_int) pa_nil))) pa_nil)))) pa_nil)))), ?_⟩
    refine ⟨_, rfl, g, a, c, b, ps, ws, rfl, G, fun H1 s1 => ?_⟩
    have G1 := G.keep s1
    have hb := ok.b16
    have h16 : ((b : Nat) : Int).natAbs.log2 < 1920 := small_log (by lia)
    refine ⟨rfl, _, rfl, _, _, _, _, rfl, rfl, SqT.of G1.tp, rfl, ⟨_, rfl, h16, ?_⟩⟩
    rw [Mt.plus, Mt.space]
    refine ⟨_, rfl, _, _, _, _, rfl, rfl, SqT.of G1.tp, rfl, ⟨43, a, ps.map fun (p : Nat) => (p : Int), rfl, by rw [← natV_eq]; exact G1.hp, by rw [List.length_map]; have := ok.l4; lia, fun n hn => ?_, fun H2 s2 => ?_⟩⟩
    · obtain ⟨p, hp, rfl⟩ := List.mem_map.mp hn
      have := ok.pr p hp
      lia
    have G2 := G1.keep s2
    refine ⟨_, rfl, _, _, _, _, rfl, rfl, SqT.of G2.tp, rfl, ⟨32, c, ws, rfl, G2.hw, by rw [ok.wl]; have := ok.sum; lia, fun n hn => by have := ok.wr n hn; lia, fun H3 s3 => ⟨sz (by simp), fun l hl => ?_⟩⟩⟩
    refine ⟨_, l, [Mt.txt (b : Int), Mt.pText ps, Mt.wText ws], rfl, rfl, ?_, ?_, ?_⟩
    · rw [upd_same]
      show some (HO.lst [V.str (Mt.txt (b : Int)), V.str (Txt.join (Mt.one 43) ((ps.map fun (p : Nat) => (p : Int)).map Mt.txt)), V.str (Txt.join (Mt.one 32) (ws.map Mt.txt))]) = _
      rw [List.map_map]
      rfl
    · have t1 := (Mt.txt_len (i := (b : Int)) (by lia)).2
      have t2 := p_len (ps := ps) fun p hp => by have := ok.pr p hp; lia
      have t3 := w_len (ws := ws) ok.wr
      have l4 := ok.l4
      have lw := ok.wl
      have hs := ok.sum
      show (Mt.txt (b : Int)).length + ((Mt.pText ps).length + ((Mt.wText ws).length + 0)) + 3 * (Str.ofString ":").length ≤ 16777216
      rw [show (Str.ofString ":").length = 1 from rfl]
      lia
    · rw [Mt.colon]
      exact k _ (s1.trans (s2.trans (s3.trans (same_upd hl))))
end
end Hv
namespace Hv
open PySem L2
section
variable {K : PySem.W.Frag}
theorem kit_ss : PySem.W.kitOne K (.type "str") (.type "str") = some true := by kernel_rfl
end
theorem str_at {ys : List Str} {i : Nat} {x : V} (h : (ys.map V.str)[i]? = some x) : ∃ y : Str, ys[i]? = some y ∧ x = .str y := by
  rw [List.getElem?_map] at h
  cases e : ys[i]? with
  | none => rw [e] at h; cases h
  | some d => rw [e] at h; exact ⟨d, rfl, (Option.some.inj h).symm⟩
theorem map_at {α : Type} {f : α → Str} {ys : List α} {i : Nat} {x : Str} (h : (ys.map f)[i]? = some x) : ∃ y, ys[i]? = some y ∧ x = f y := by
  rw [List.getElem?_map] at h
  cases e : ys[i]? with
  | none => rw [e] at h; cases h
  | some d => rw [e] at h; exact ⟨d, rfl, (Option.some.inj h).symm⟩
section
variable {P : Program} {w : World} {K : PySem.W.Frag} {mg : Str → Option Value} {base : Heap}
theorem scIsWriting : FnScope ["base", "parts", "weights"] ["base", "parts", "weights"] (defScope sIsWriting) := ⟨rfl, rfl, rfl, by decide +kernel, rfl, by decide +kernel, by decide +kernel⟩
theorem scFrameOr : FnScope ["text", "pieces", "parts", "weights", "frame"] ["text"] (defScope sFrameOr) := ⟨rfl, rfl, rfl, by decide +kernel, rfl, by decide +kernel, by decide +kernel⟩
theorem scReadFrame : FnScope ["text", "frame"] ["text"] (defScope sReadFrame) := ⟨rfl, rfl, rfl, by decide +kernel, rfl, by decide +kernel, by decide +kernel⟩
end
end Hv
namespace Hv
open PySem L2
noncomputable def spCell (K : PySem.W.Frag) : Sp := fun vs H Q _ => ∃ (a : Addr) (ns : List Int) (k : Nat), vs = [.ref a, .int k] ∧ SqL K H a (ns.map V.int) ∧ k ≤ 1000 ∧ ∀ c : Int, Q (.int c) H
noncomputable def spMixed : Sp := fun vs H Q _ => ∃ cell k : Int, vs = [.int cell, .int k] ∧ 0 ≤ cell ∧ 0 ≤ k ∧ k ≤ 1000 ∧ ∀ r H', 0 ≤ r → Same H H' → Q (.int r) H'
noncomputable def spFrame38 : Sp := fun vs H Q _ => ∃ cell : Int, vs = [.int cell, .int 6] ∧ 0 ≤ cell ∧ ∀ f a c b ps ws H', Same H H' → FrAt H' f a c b ps ws → H f = none → H a = none → H c = none → a ≠ c → Q (.ref f) H'
section
variable {P : Program} {w : World} {K : PySem.W.Frag} {mg : Str → Option Value} {base : Heap}
theorem scCell : FnScope ["script", "k"] ["script", "k"] (defScope sCell) := ⟨rfl, rfl, rfl, by decide +kernel, rfl, by decide +kernel, by decide +kernel⟩
theorem ok_cell {f : Addr} {fd : FuncData} (F : Fun K "_law_cell" "_law_cell" sCell f fd) (T : Txt mg) : FnOk P w K mg base CX0 1 f fd ["script", "k"] (spCell K) := by
  refine F.ok scCell (fun vs H Q E h => ?_) (fun cdv A outer s H vs Q E hr h => ?_)
  · obtain ⟨a, ns, j, rfl, _⟩ := h; rfl
  · obtain ⟨a, ns, j, rfl, hS, hj, k⟩ := h
    refine ⟨_, pss_cons (ps_if (pt_cmpR op_lt (pv 1) (lenS T.len (by rfl) (pv 0)) (nomark _)) (pss_one (ps_ret (ixl (pv 0) (pv 1)))) pss_nil)
      (pss_one (ps_ret (pe_op op_add (pe_op op_add (pe_op op_mul (pe_op op_mul pe_int (pv 1)) (pv 1)) (pe_op op_mul pe_int (pv 1))) pe_int))), ?_⟩
    refine ⟨_, rfl, _, rfl, a, _, rfl, .inl hS, _, _, rfl, rfl, _, rfl, ite2 (fun h => ?_) (fun _ => ?_)⟩
    · have h' : j < ns.length := by
        have := of_decide_eq_true h
        rw [List.length_map] at this
        lia
      exact ⟨_, rfl, _, rfl, a, _, _, _, rfl, rfl, hS, atI_nat (v := V.int ns[j]) (by simp [h']), k _⟩
    · exact ⟨_, rfl, _, _, rfl, rfl, .inl ⟨by decide, by decide⟩, _, rfl, _, _, rfl, rfl, .inr ⟨by lia, by lia⟩, _, rfl, _, _, rfl, rfl, .inl ⟨by decide, by decide⟩, _, _, rfl, rfl, _, _, rfl, rfl, k _⟩
theorem scMixed : FnScope ["cell", "k", "number", "some"] ["cell", "k"] (defScope sMixed) := ⟨rfl, rfl, rfl, by decide +kernel, rfl, by decide +kernel, by decide +kernel⟩
theorem ok_mixed {f : Addr} {fd : FuncData} (F : Fun K "_law_mixed" "_law_mixed" sMixed f fd) : FnOk P w K mg base CX0 1 f fd ["cell", "k"] spMixed := by
  refine F.ok scMixed (fun vs H Q E h => ?_) (fun cdv A outer s H vs Q E hr h => ?_)
  · obtain ⟨c, j, rfl, _⟩ := h; rfl
  · obtain ⟨c, j, rfl, hc, j0, j1, k⟩ := h
    have nd := scMixed.nd
    refine ⟨_, pss_cons (ps_set (i := 2) nd rfl (Or.inl rfl) (pe_op op_mod (pe_op op_add (pe_op op_add (pe_op op_add (pe_op op_mul (pv 0) pe_int) (pe_op op_mul (pe_op op_mul pe_int (pv 1)) (pv 1))) (pe_op op_mul pe_int (pv 1))) pe_int) pe_int))
      (pss_cons (ps_set (i := 3) nd rfl (Or.inl rfl) (pe_lst (pa_cons pe_int (pa_cons pe_int (pa_cons pe_int (pa_cons pe_int (pa_cons pe_int (pa_cons pe_int (pa_cons pe_int pa_nil)))))))))
      (pss_cons (ps_set (i := 2) nd rfl (Or.inl rfl) (pe_op op_mod (pe_op op_mul (pv 2) (pv 2)) (ixl (pv 3) (pe_op op_mod (pv 1) pe_int))))
      (pss_one (ps_ret (pe_op op_fdiv (pe_op op_add (pe_op op_mul (pv 2) pe_int) (pe_op op_mod (pv 0) pe_int)) pe_int))))), ?_⟩
    refine ⟨_, rfl, _, _, rfl, rfl, .inr ⟨by decide, by decide⟩, _, rfl, _, _, rfl, rfl, .inl ⟨by decide, by decide⟩, _, rfl, _, _, rfl, rfl, .inr ⟨by lia, by lia⟩, _, _, rfl, rfl, _, rfl, _, _, rfl, rfl, .inl ⟨by decide, by decide⟩, _, _, rfl, rfl, _, _, rfl, rfl, _, _, rfl, rfl, (by show (0 : Int) < 2147483647; decide), ?_⟩
    dsimp only
    generalize hn1 : (c * 48271 + 7919 * j * j + 104729 * j + 11) % 2147483647 = n1
    have a1 : 0 ≤ n1 := by rw [← hn1]; exact Int.emod_nonneg _ (by decide)
    have a2 : n1 < 2147483647 := by rw [← hn1]; exact Int.emod_lt_of_pos _ (by decide)
    refine ⟨sz (by simp), fun l hl => ?_⟩
    have S := same_upd (o := .lst [.int 2147483629, .int 2147483587, .int 2147483579, .int 2147483563, .int 2147483549, .int 2147483543, .int 2147483497]) hl
    have u : upd H l (.lst [.int 2147483629, .int 2147483587, .int 2147483579, .int 2147483563, .int 2147483549, .int 2147483543, .int 2147483497]) l = some (.lst [.int 2147483629, .int 2147483587, .int 2147483579, .int 2147483563, .int 2147483549, .int 2147483543, .int 2147483497]) := upd_same
    generalize upd H l (.lst [.int 2147483629, .int 2147483587, .int 2147483579, .int 2147483563, .int 2147483549, .int 2147483543, .int 2147483497]) = H1 at S u ⊢
    refine ⟨_, rfl, _, rfl, _, _, rfl, rfl, .inl ⟨by lia, by lia⟩, _, rfl, _, rfl, _, _, rfl, rfl, (by show (0 : Int) < 7; decide), ?_⟩
    obtain ⟨x, ex, m, rfl, m1, m2⟩ := at_all (xs := [.int 2147483629, .int 2147483587, .int 2147483579, .int 2147483563, .int 2147483549, .int 2147483543, .int 2147483497]) (i := j % 7) (Pr := fun v => ∃ m : Int, v = .int m ∧ 0 < m ∧ m < 2147483648) (by lia) (by show _ < (7 : Int); lia) (by
      intro x hx
      simp only [List.mem_cons, List.not_mem_nil, or_false] at hx
      rcases hx with rfl | rfl | rfl | rfl | rfl | rfl | rfl <;> exact ⟨_, rfl, by decide, by decide⟩)
    refine r_ixl u ex ⟨_, _, rfl, rfl, m1, ?_⟩
    dsimp only
    generalize hn2 : n1 * n1 % m = n2
    have c1 : 0 ≤ n2 := by rw [← hn2]; exact Int.emod_nonneg _ (by lia)
    have c2 : n2 < 2147483648 := by have := Int.emod_lt_of_pos (n1 * n1) m1; lia
    refine ⟨_, rfl, _, _, rfl, rfl, .inl ⟨by lia, by lia⟩, _, rfl, _, _, rfl, rfl, (by show (0 : Int) < 5; decide), _, _, rfl, rfl, _, _, rfl, rfl, ⟨by show (0 : Int) < 8; decide, by show (8 : Int) < 1073741824; decide⟩, k _ H1 ?_ S⟩
    have := Int.emod_nonneg c (show (5 : Int) ≠ 0 by decide)
    exact Int.ediv_nonneg (by lia) (by decide)
end
end Hv
namespace Hv
open PySem L2
theorem iteAny {c A B : Prop} [Decidable c] (h1 : A) (h2 : B) : if c then A else B := ite2 (fun _ => h1) fun _ => h2
theorem if_tail {c A : Prop} [Decidable c] {nx : St → Hp → Prop} {σ : St} {H : Hp} (Good : St → Hp → Prop) (h : ∀ σ H, Good σ H → nx σ H) (hA : (∀ σ H, Good σ H → nx σ H) → A) (hB : Good σ H) : if c then A else nx σ H := iteAny (hA h) (h _ _ hB)
noncomputable def Nine (v : V) : Prop := ∃ x : Int, v = .int x ∧ -9 ≤ x ∧ x ≤ 9
theorem rep_nat {n x : Nat} : (List.replicate n [V.int (x : Int)]).flatten = natV (List.replicate n x) := by
  induction n with
  | zero => rfl
  | succ n ih => rw [List.replicate_succ, List.flatten_cons, ih, List.replicate_succ]; rfl

theorem nats_sum {ps : List Nat} (h : ∀ p ∈ ps, 1 ≤ p ∧ p ≤ 6) : ∀ n ∈ ps.map fun (p : Nat) => (p : Int), -1000000000 ≤ n ∧ n ≤ 1000000000 := fun n hn => by
  obtain ⟨p, hp, rfl⟩ := List.mem_map.mp hn
  have := h p hp
  lia
section
variable {P : Program} {w : World} {K : PySem.W.Frag} {mg : Str → Option Value} {base : Heap}
theorem scFrame : FnScope ["cell", "most", "base", "parts", "kind", "weights", "k", "one"] ["cell", "most"] (defScope sFrame) := ⟨rfl, rfl, rfl, by decide +kernel, rfl, by decide +kernel, by decide +kernel⟩
theorem ok_frame {f : Addr} {fd : FuncData} (F : Fun K "_law_frame" "_law_frame" sFrame f fd) (T : Txt mg) (DM : Def P w K mg base 1 "_law_mixed" ["cell", "k"] spMixed) : FnOk P w K mg base CX0 2 f fd ["cell", "most"] spFrame38 := by
  refine F.ok scFrame (fun vs H Q E h => ?_) (fun cdv A outer s H vs Q E hr h => ?_)
  · obtain ⟨c, rfl, _⟩ := h; rfl
  · obtain ⟨c, rfl, hc, k⟩ := h
    have nd := scFrame.nd
    refine ⟨_, pss_cons (ps_set (i := 2) nd rfl (Or.inl rfl) (pe_op op_add pe_int (pe_op op_mod (pv 0) pe_int)))
      (pss_cons (ps_cmp1 (defScope sFrame) ["cell", "most", "base", "parts", "kind", "weights", "k", "one"] ["cell", "most"] [0, 1] (i := 3) nd rfl (Or.inl rfl) rfl (pi_range1 (by rfl) T.range (pa_cons (pe_op op_add pe_int (pe_op op_mod (pe_op op_fdiv (pv 0) pe_int) pe_int)) pa_nil)) (fun cl C s H fp => pf_nil) (fun cl C s H fp => pe_op op_add pe_int (pe_op op_mod (pe_fn DM hr (by rfl) (pa_cons (pv 1) (pa_cons (pv 0) pa_nil))) (pv 2))) (by decide +kernel) (by rfl))
      (pss_cons (ps_if (pt_cmpR op_eq (pe_op op_mod (pe_op op_fdiv (pv 0) pe_int) pe_int) pe_int (nomark _)) (pss_one (ps_set (i := 3) nd rfl (Or.inl rfl) (pe_op op_rep (pe_lst (pa_cons (ixl (pv 3) pe_int) pa_nil)) (lenS T.len (by rfl) (pv 3))))) pss_nil)
      (pss_cons (ps_set (i := 4) nd rfl (Or.inl rfl) (pe_op op_mod (pe_op op_fdiv (pv 0) pe_int) pe_int))
      (pss_cons (ps_set (i := 5) nd rfl (Or.inl rfl) (pe_lst pa_nil))
      (pss_cons (ps_for PassesOwn.never rfl (pi_range1 (by rfl) T.range (pa_cons (pe_callB (call_sumL rfl) (by rfl) T.sum boot_sum (pa_cons (pv 3) pa_nil)) pa_nil)) (pg_name (i := 6) nd rfl (Or.inl rfl))
        (pss_cons (ps_set (i := 7) nd rfl (Or.inl rfl) (pe_fn DM hr (by rfl) (pa_cons (pv 0) (pa_cons (pe_op op_add pe_int (pv 6)) pa_nil))))
        (pss_one (ps_expr (pe_bm PySem.F.plainAttrs_list PySem.F.slot_list_append PySem.F.type_list_append mt_append (pv 5) (pa_cons (ixl (pe_lst (pa_cons pe_int (pa_cons (pe_op op_mod (pv 7) pe_int) (pa_cons (pe_op op_sub (pe_op op_mod (pv 7) pe_int) pe_int) (pa_cons (pe_op op_mul (pe_op op_mod (pv 7) pe_int) pe_int) (pa_cons (ixl (pe_lst (pa_cons pe_int (pa_cons (pe_un un_neg pe_int) pa_nil))) (pe_op op_mod (pv 7) pe_int)) pa_nil)))))) (pv 4)) pa_nil))))))
      (pss_one (ps_ret (pe_tup (pa_cons (pv 2) (pa_cons (pv 3) (pa_cons (pv 5) pa_nil))))))))))), ?_⟩
    refine ⟨_, rfl, _, _, rfl, rfl, (by show (0 : Int) < 15; decide), _, _, rfl, rfl, ?_⟩
    dsimp only
    have d1 := Int.emod_nonneg c (show (15 : Int) ≠ 0 by decide)
    have d2 := Int.emod_lt_of_pos c (show (0 : Int) < 15 by decide)
    generalize c % 15 = cb at d1 d2 ⊢
    refine ⟨_, rfl, _, _, rfl, rfl, ⟨by show (0 : Int) < 15; decide, by show (15 : Int) < 1073741824; decide⟩, _, _, rfl, rfl, (by show (0 : Int) < 3; decide), _, _, rfl, rfl, ?_⟩
    dsimp only
    have f1 := Int.emod_nonneg (c / 15) (show (3 : Int) ≠ 0 by decide)
    have f2 := Int.emod_lt_of_pos (c / 15) (show (0 : Int) < 3 by decide)
    generalize c / 15 % 3 = cp at f1 f2 ⊢
    refine ⟨_, rfl, by lia, by lia, comp_range (lo := 0) (n := (2 + cp).toNat) (fun i ys H6 => ∃ ps : List Nat, ys = natV ps ∧ ps.length = i ∧ (∀ x ∈ ps, 1 ≤ x ∧ x ≤ 6) ∧ Same H H6) ⟨[], rfl, rfl, fun x hx => by simp at hx, Same.refl _⟩ ?_ ?_⟩
    · rintro i ys H6 hi ⟨ps, rfl, hl, hp, s6⟩
      refine ⟨szl (by simp [natV]; lia), ?_⟩
      refine ⟨_, rfl, _, rfl, c, 0 + (i : Int), rfl, hc, by lia, by lia, fun r H7 r0 s7 => ⟨_, rfl, _, _, rfl, rfl, (by show (0 : Int) < 6; decide), _, _, rfl, rfl, ps ++ [(1 + r % 6).toNat], ?_, by simp [hl], fun x hx => ?_, s6.trans s7⟩⟩
      · have g1 := Int.emod_nonneg r (show (6 : Int) ≠ 0 by decide)
        have e : (((1 + r % 6).toNat : Nat) : Int) = 1 + r % 6 := by lia
        simp [natV]
        lia
      · have g1 := Int.emod_nonneg r (show (6 : Int) ≠ 0 by decide)
        have g2 := Int.emod_lt_of_pos r (show (0 : Int) < 6 by decide)
        rcases List.mem_append.mp hx with hx | hx
        · exact hp x hx
        · have : x = (1 + r % 6).toNat := by simpa using hx
          lia
    rintro ys H6 ⟨ps, rfl, hl, hp, s6⟩ a ha
    have S6 := s6.trans (same_upd (o := .lst (natV ps)) ha)
    have ua : upd H6 a (.lst (natV ps)) a = some (.lst (natV ps)) := upd_same
    have fa : H a = none := s6.free ha
    generalize upd H6 a (.lst (natV ps)) = H7 at S6 ua ⊢
    refine ⟨_, rfl, _, _, rfl, rfl, ⟨by show (0 : Int) < 45; decide, by show (45 : Int) < 1073741824; decide⟩, _, _, rfl, rfl, (by show (0 : Int) < 3; decide), rfl, _, rfl, ?_⟩
    refine if_tail (fun σ H' => ∃ (a' : Addr) (ps' : List Nat), σ = [some (.int c), some (.int 6), some (.int (2 + cb)), some (.ref a'), none, none, none, none] ∧ Same H H' ∧ H' a' = some (.lst (natV ps')) ∧ H a' = none ∧ 2 ≤ ps'.length ∧ ps'.length ≤ 4 ∧ ∀ x ∈ ps', 1 ≤ x ∧ x ≤ 6) ?tail (fun hT => ?thn) ⟨a, ps, rfl, S6, ua, fa, by lia, by lia, hp⟩
    case thn =>
      obtain ⟨x0, rr, ee⟩ : ∃ x0 rr, ps = x0 :: rr := by
        cases ps with
        | nil => simp at hl; lia
        | cons x0 rr => exact ⟨x0, rr, rfl⟩
      refine ⟨_, rfl, _, _, _, _, rfl, rfl, SqL.of ua, by rw [ee]; exact atI_nat (j := 0) rfl, ⟨sz (by simp), fun l5 hl5 => ?_⟩⟩
      have s5 := same_upd (o := .lst [.int (x0 : Int)]) hl5
      refine ⟨_, rfl, a, _, rfl, .inl (SqL.of (s5 _ _ ua)), l5, _, _, rfl, rfl, upd_same, by lia, ?_, ?_, fun l6 hl6 => hT _ _ ⟨l6, List.replicate ps.length x0, rfl, S6.trans (s5.trans (same_upd hl6)), ?_, S6.free (s5.free hl6), by simp; lia, by simp; lia, fun x hx => ?_⟩⟩
      · simp [natV]; lia
      · exact sz (by simp [natV]; lia)
      · rw [upd_same]
        simp only [natV, List.length_map, Int.toNat_natCast]
        rw [rep_nat]
      · have := List.eq_of_mem_replicate hx
        rw [this]
        exact hp x0 (by rw [ee]; simp)
    case tail =>
      rintro σ H8 ⟨a', ps', rfl, S8, h8, f8, l2', l4', pr'⟩
      have hsum := Ma.sum_le6 ps' pr'
      refine ⟨_, rfl, _, _, rfl, rfl, ⟨by show (0 : Int) < 135; decide, by show (135 : Int) < 1073741824; decide⟩, _, _, rfl, rfl, (by show (0 : Int) < 5; decide), ?_⟩
      dsimp only
      have k1 := Int.emod_nonneg (c / 135) (show (5 : Int) ≠ 0 by decide)
      have k2 := Int.emod_lt_of_pos (c / 135) (show (0 : Int) < 5 by decide)
      generalize c / 135 % 5 = kd at k1 k2 ⊢
      refine ⟨sz (by decide), fun l hl => ?_⟩
      have s9 := same_upd (o := .lst []) hl
      have al : a' ≠ l := ne_of_none h8 hl
      have fl : H l = none := S8.free hl
      refine ⟨_, rfl, a', ps'.map fun (p : Nat) => (p : Int), rfl, SqL.of (by rw [← natV_eq]; exact s9 _ _ h8), ⟨by rw [List.length_map]; lia, nats_sum pr'⟩, _, rfl, ?_⟩
      rw [Ma.sum_cast]
      refine ⟨by lia, by lia, ?_⟩
      have en : (((ps'.sum : Nat) : Int)).toNat = ps'.sum := by lia
      rw [en]
      refine for_range (n := ps'.sum) (fun i σ H10 => ∃ (ws : List Int) (v6 v7 : Option V), σ = [some (.int c), some (.int 6), some (.int (2 + cb)), some (.ref a'), some (.int kd), some (.ref l), v6, v7] ∧ Kp [l] (upd H8 l (.lst [])) H10 ∧ H10 l = some (.lst (ws.map V.int)) ∧ ws.length = i ∧ ∀ x ∈ ws, -9 ≤ x ∧ x ≤ 9)
        ⟨[], none, none, rfl, Kp.refl, upd_same, rfl, fun x hx => by simp at hx⟩ ?_ ?_
      · rintro i σ H10 hi ⟨ws, v6, v7, rfl, K10, hl10, hw10, hr10⟩
        have hi24 : i < 24 := by lia
        refine ⟨_, rfl, _, rfl, _, _, rfl, rfl, c, 10 + (0 + (i : Int)), rfl, hc, by lia, by lia, fun r H11 r0 s11 => ?_⟩
        have hl11 := s11 _ _ hl10
        have q3 := Int.emod_nonneg r (show (3 : Int) ≠ 0 by decide)
        have q3' := Int.emod_lt_of_pos r (show (0 : Int) < 3 by decide)
        have q19 := Int.emod_nonneg r (show (19 : Int) ≠ 0 by decide)
        have q19' := Int.emod_lt_of_pos r (show (0 : Int) < 19 by decide)
        have q2 := Int.emod_nonneg r (show (2 : Int) ≠ 0 by decide)
        have q2' := Int.emod_lt_of_pos r (show (0 : Int) < 2 by decide)
        refine ⟨_, rfl, .inl ⟨rfl, _, SqL.of hl11⟩, _, rfl, _, _, rfl, rfl, (by show (0 : Int) < 3; decide), _, rfl, _, _, rfl, rfl, (by show (0 : Int) < 19; decide), _, _, rfl, rfl, _, rfl, _, _, rfl, rfl, (by show (0 : Int) < 2; decide), _, _, rfl, rfl, .inr ⟨by decide, by decide⟩, _, rfl, ⟨sz (by simp), fun m hm => ?_⟩⟩
        have sm := same_upd (o := .lst [.int 9, .int (-9)]) hm
        obtain ⟨y, ey, hy⟩ := at_all (xs := [.int 9, .int (-9)]) (i := r % 2) (Pr := Nine) q2 (by show _ < (2 : Int); lia) (by
          intro x hx
          simp only [List.mem_cons, List.not_mem_nil, or_false] at hx
          rcases hx with rfl | rfl
          · exact ⟨9, rfl, by decide, by decide⟩
          · exact ⟨-9, rfl, by decide, by decide⟩)
        refine ⟨_, rfl, _, _, rfl, rfl, (by show (0 : Int) < 2; decide), r_ixl upd_same ey ⟨sz (by simp), fun m2 hm2 => ?_⟩⟩
        have sm2 := same_upd (o := .lst [.int 1, .int (r % 3), .int (r % 19 - 9), .int (r % 2 * 9), y]) hm2
        obtain ⟨z, ez, nz, rfl, z1, z2⟩ := at_all (xs := [.int 1, .int (r % 3), .int (r % 19 - 9), .int (r % 2 * 9), y]) (i := kd) (Pr := Nine) k1 (by show _ < (5 : Int); lia) (by
          intro x hx
          simp only [List.mem_cons, List.not_mem_nil, or_false] at hx
          rcases hx with rfl | rfl | rfl | rfl | rfl
          · exact ⟨1, rfl, by decide, by decide⟩
          · exact ⟨_, rfl, by lia, by lia⟩
          · exact ⟨_, rfl, by lia, by lia⟩
          · exact ⟨_, rfl, by lia, by lia⟩
          · exact hy)
        have hl12 := sm2 _ _ (sm _ _ hl11)
        refine ⟨_, rfl, r_ixl upd_same ez ⟨l, _, _, rfl, rfl, hl12, szl (by rw [List.length_map]; lia), ws ++ [nz], _, _, rfl, ?_, ?_, by simp [hw10], fun x hx => ?_⟩⟩
        · exact kp_upd (K10.same (s11.trans (sm.trans sm2))) (.inl (by simp))
        · rw [upd_same]
          simp
        · rcases List.mem_append.mp hx with hx | hx
          · exact hr10 x hx
          · have : x = nz := by simpa using hx
            lia
      · rintro σ H10 ⟨ws, v6, v7, rfl, K10, hl10, hw10, hr10⟩
        refine ⟨_, rfl, _, rfl, _, rfl, sz (by simp), fun g hg => ?_⟩
        have h10 : H10 a' = some (.lst (natV ps')) := K10 _ _ (s9 _ _ h8) (by simpa using al)
        have S10 : Same H H10 := fun b o e => K10 _ _ (s9 _ _ (S8 _ _ e)) (by
          intro z
          have : b = l := by simpa using z
          rw [this, fl] at e
          cases e)
        have sg := same_upd (o := .tup [.int (2 + cb), .ref a', .ref l]) hg
        have eb : ((2 + cb).toNat : Int) = 2 + cb := by lia
        refine k g a' l (2 + cb).toNat ps' ws _ (S10.trans sg) ⟨?_, sg _ _ h10, sg _ _ hl10, ⟨by lia, by lia, l2', l4', pr', by lia, hr10⟩⟩ (S10.free hg) f8 fl al
        rw [eb]
        exact upd_same
theorem scWrittenL : FnScope ["frame", "parts"] ["frame"] (defScope sLawWritten) := ⟨rfl, rfl, rfl, by decide +kernel, rfl, by decide +kernel, by decide +kernel⟩
theorem ok_writtenl {f : Addr} {fd : FuncData} (F : Fun K "_law_written" "_law_written" sLawWritten f fd) (hS : mg "str" = none) : FnOk P w K mg base CX0 1 f fd ["frame"] spShow := by
  refine F.ok scWrittenL (fun vs H Q E h => ?_) (fun cdv A outer s H vs Q E hr h => ?_)
  · obtain ⟨g, a, c, b, ps, ws, rfl, _⟩ := h; rfl
  · obtain ⟨g, a, c, b, ps, ws, rfl, G, k⟩ := h
    have nd := scWrittenL.nd
    have ok := G.ok
    have b16 := ok.b16
    have l4 := ok.l4
    have hs := ok.sum
    have hw := ok.wl
    have p16 : ∀ p ∈ ps, p ≤ 16 := fun p hp => by have := ok.pr p hp; lia
    have t1 := (Mt.txt_len (i := (b : Int)) (by lia)).2
    have t2 := p_len p16
    have t3 := w_len (ws := ws) ok.wr
    refine ⟨_, pss_cons (ps_set (i := 1) nd rfl (Or.inl rfl) (pe_bm PySem.F.plainAttrs_str PySem.F.slot_str_join PySem.F.type_str_join mt_join pe_str (pa_cons (pe_cmp1 (defScope sLawWritten) ["frame", "parts"] [] [] rfl (pi_list (ixt (pv 0) pe_int)) (fun cl C s H fp => pf_nil) (fun cl C s H fp => pe_callTy call_str_int (by rfl) hS boot_str (pa_cons (pv 0) pa_nil)) (by decide +kernel)) pa_nil)))
      (pss_one (ps_ret (pe_op op_add_str (pe_op op_add_str (pe_op op_add_str (pe_op op_add_str (pe_callTy call_str_int (by rfl) hS boot_str (pa_cons (ixt (pv 0) pe_int) pa_nil)) pe_str) (pv 1)) pe_str)
        (pe_bm PySem.F.plainAttrs_str PySem.F.slot_str_join PySem.F.type_str_join mt_join pe_str (pa_cons (pe_cmp1 (defScope sLawWritten) ["frame", "parts"] [] [] rfl (pi_list (ixt (pv 0) pe_int)) (fun cl C s H fp => pf_nil) (fun cl C s H fp => pe_callTy call_str_int (by rfl) hS boot_str (pa_cons (pv 0) pa_nil)) (by decide +kernel)) pa_nil))))), ?_⟩
    have hpr : ∀ n ∈ ps.map fun (p : Nat) => (p : Int), -9 ≤ n ∧ n ≤ 16 := fun n hn => by
      obtain ⟨p, hp, rfl⟩ := List.mem_map.mp hn
      have := ok.pr p hp
      lia
    have hwr : ∀ n ∈ ws, -9 ≤ n ∧ n ≤ 16 := fun n hn => by have := ok.wr n hn; lia
    have hpa : H a = some (.lst ((ps.map fun (p : Nat) => (p : Int)).map V.int)) := by rw [← natV_eq]; exact G.hp
    refine ⟨rfl, _, rfl, _, _, _, _, rfl, rfl, SqT.of G.tp, rfl, a, rfl, ⟨_, SqL.of hpa⟩, comp_list (K := K) (a := a) (xs := (ps.map fun (p : Nat) => (p : Int)).map V.int) (fun i ys H2 => ys = (((ps.map fun (p : Nat) => (p : Int)).take i).map Mt.txt).map V.str ∧ Same H H2) ⟨by simp, Same.refl _⟩ (fun i ys H2 _ p => SqL.of (p.2 _ _ hpa)) ?_ ?_⟩
    · rintro i x ys H2 hx ⟨rfl, s2⟩
      obtain ⟨n, hn', rfl⟩ : ∃ n : Int, (ps.map fun (p : Nat) => (p : Int))[i]? = some n ∧ x = .int n := by
        rw [List.getElem?_map] at hx
        cases e : (ps.map fun (p : Nat) => (p : Int))[i]? with
        | none => rw [e] at hx; cases hx
        | some n => rw [e] at hx; exact ⟨n, rfl, (Option.some.inj hx).symm⟩
      have hil : i < (ps.map fun (p : Nat) => (p : Int)).length := (List.getElem?_eq_some_iff.mp hn').1
      have hb := hpr n (List.mem_of_getElem? hn')
      refine ⟨szl (by simp; lia), _, rfl, n, rfl, small_log (by lia), ?_, s2⟩
      rw [List.take_add_one, hn']
      simp [Mt.txt]
    rintro ys H2 ⟨rfl, s2⟩ l hl
    rw [List.length_map, List.take_length]
    refine ⟨_, l, (ps.map fun (p : Nat) => (p : Int)).map Mt.txt, rfl, rfl, upd_same, ?_, ?_⟩
    · have := txt_sum hpr
      rw [List.length_map] at this ⊢
      rw [List.length_map]
      show _ + ps.length * 1 ≤ _
      lia
    have S3 := s2.trans (same_upd (o := .lst (((ps.map fun (p : Nat) => (p : Int)).map Mt.txt).map V.str)) hl)
    generalize upd H2 l (.lst (((ps.map fun (p : Nat) => (p : Int)).map Mt.txt).map V.str)) = H3 at S3 ⊢
    have G3 := G.keep S3
    have ep : Txt.join (Str.ofString "+") ((ps.map fun (p : Nat) => (p : Int)).map Mt.txt) = Mt.pText ps := by rw [Mt.plus, List.map_map]; rfl
    rw [ep]
    refine ⟨_, rfl, _, _, _, _, rfl, rfl, SqT.of G3.tp, rfl, ⟨_, rfl, small_log (by lia), ?_⟩⟩
    have lc : (Str.ofString ":").length = 1 := rfl
    refine ⟨_, _, rfl, rfl, ?_, _, rfl, _, _, rfl, rfl, ?_, _, _, rfl, rfl, ?_, ?_⟩
    · show (Mt.txt (b : Int)).length + _ ≤ _
      rw [lc]
      exact sz (by lia)
    · rw [Str.length_append, lc]
      show (Mt.txt (b : Int)).length + 1 + _ ≤ _
      exact sz (by lia)
    · rw [Str.length_append, Str.length_append, lc]
      show (Mt.txt (b : Int)).length + 1 + _ + 1 ≤ _
      exact sz (by lia)
    refine ⟨rfl, _, rfl, _, _, _, _, rfl, rfl, SqT.of G3.tp, rfl, c, rfl, ⟨_, SqL.of G3.hw⟩, comp_list (K := K) (a := c) (xs := (ws).map V.int) (fun i ys H2 => ys = (((ws).take i).map Mt.txt).map V.str ∧ Same H3 H2) ⟨by simp, Same.refl _⟩ (fun i ys H2 _ p => SqL.of (p.2 _ _ G3.hw)) ?_ ?_⟩
    · rintro i x ys H2 hx ⟨rfl, s2⟩
      obtain ⟨n, hn', rfl⟩ : ∃ n : Int, (ws)[i]? = some n ∧ x = .int n := by
        rw [List.getElem?_map] at hx
        cases e : (ws)[i]? with
        | none => rw [e] at hx; cases hx
        | some n => rw [e] at hx; exact ⟨n, rfl, (Option.some.inj hx).symm⟩
      have hil : i < (ws).length := (List.getElem?_eq_some_iff.mp hn').1
      have hb := hwr n (List.mem_of_getElem? hn')
      refine ⟨szl (by simp; lia), _, rfl, n, rfl, small_log (by lia), ?_, s2⟩
      rw [List.take_add_one, hn']
      simp [Mt.txt]
    rintro ys H4 ⟨rfl, s4⟩ l' hl'
    rw [List.length_map, List.take_length]
    refine ⟨_, l', ws.map Mt.txt, rfl, rfl, upd_same, ?_, ?_⟩
    · have := txt_sum hwr
      rw [List.length_map]
      show _ + ws.length * 1 ≤ _
      lia
    have ew : Txt.join (Str.ofString " ") (ws.map Mt.txt) = Mt.wText ws := by rw [Mt.space]; rfl
    rw [ew]
    refine ⟨_, _, rfl, rfl, ?_, ?_⟩
    · rw [Str.length_append, Str.length_append, Str.length_append, lc]
      show (Mt.txt (b : Int)).length + 1 + _ + 1 + _ ≤ _
      exact sz (by lia)
    have ef : Mt.txt (b : Int) ++ Str.ofString ":" ++ Mt.pText ps ++ Str.ofString ":" ++ Mt.wText ws = Mt.fText b ps ws := by
      rw [Mt.colon]
      exact (Mt.f_three _ _ _).symm
    have fin := k _ (S3.trans (s4.trans (same_upd (o := .lst ((ws.map Mt.txt).map V.str)) hl')))
    rw [← ef] at fin
    exact fin
end
end Hv
namespace Mt
open PySem PyProof.Rows
theorem beq_str {a b : Str} (h : (a == b) = true) : a = b := eq_of_beq h
theorem len_list (z : Str) : z.length = z.cps.toList.length := by simp [Str.length]
theorem slice_from {z : Str} {i : Nat} (h : i ≤ z.length) : (Txt.slice z (some (i : Int)) none).cps.toList = z.cps.toList.drop i := by
  rw [slice_from_eq (x := z) (i := (i : Int)) (b := (z.length : Int)) (by lia) (by lia) rfl]
  simp only [Int.toNat_natCast]
  rw [List.take_of_length_le]
  rw [List.length_drop, ← len_list]
  lia
theorem slice_to {z : Str} {j : Nat} (h : j ≤ z.length) : (Txt.slice z none (some (j : Int))).cps.toList = z.cps.toList.take j := by
  have e := beq_str (slice_closes_toL (x := z) (j := (j : Int)) (by lia) (by lia))
  rw [e]
  simp
theorem starts_one (z : Str) (c : Nat) : Txt.startswith z (one c) = (z.cps.toList.head? == some c) := by
  unfold Txt.startswith
  have e := StrLaws.subAt_eq z (one c) 0
  cases h : z.cps.toList with
  | nil =>
    have : z.length = 0 := by rw [len_list, h]; rfl
    rw [this]
    rfl
  | cons d r =>
    have hl : 1 ≤ z.length := by rw [len_list, h]; simp
    have e1 : decide (0 + (one c).length ≤ z.length) = true := decide_eq_true (by show 0 + 1 ≤ z.length; lia)
    rw [e1, Bool.true_and]
    show (z.cps.extract 0 (0 + 1) == #[c]) = _
    have e2 : z.cps.extract 0 (0 + 1) = #[d] := by
      apply Array.toList_inj.mp
      rw [Array.toList_extract, h]
      rfl
    rw [e2]
    by_cases hd : d = c
    · subst hd; simp
    · simp [hd]
noncomputable def dgB (c : Nat) : Bool := decide (48 ≤ c) && decide (c ≤ 57)
theorem dg_of {c : Nat} (h : dgB c = true) : ∃ k : Fin 10, c = 48 + (k : Nat) := by
  simp only [dgB, Bool.and_eq_true, decide_eq_true_eq] at h
  exact ⟨⟨c - 48, by lia⟩, by show c = 48 + (c - 48); lia⟩
noncomputable def wrB (z : Str) (m : Int) : Bool := decide ((1 : Int) ≤ z.length) && decide ((z.length : Int) ≤ m) && !(decide (1 < z.length) && z.cps.toList.head? == some 48) && z.cps.toList.all dgB
noncomputable def wrS (z : Str) (m : Int) : Bool := if Txt.startswith z (one 45) then !decide (z = Str.ofString "-0") && wrB (Txt.slice z (some 1) none) m else wrB z m
theorem one_txt : ∀ k : Fin 10, ((⟨#[48 + (k : Nat)]⟩ : Str) == txt ((k : Nat) : Int)) = true := by decide +kernel
theorem two_txt : ∀ k l : Fin 10, (k : Nat) = 0 ∨ ((⟨#[48 + (k : Nat), 48 + (l : Nat)]⟩ : Str) == txt (((k : Nat) : Int) * 10 + ((l : Nat) : Int))) = true := by decide +kernel
theorem neg_txt : ∀ k : Fin 10, (k : Nat) = 0 ∨ ((⟨#[45, 48 + (k : Nat)]⟩ : Str) == txt (-((k : Nat) : Int))) = true := by decide +kernel
theorem neg_zero : ((⟨#[45, 48]⟩ : Str) == Str.ofString "-0") = true := by decide +kernel
theorem wr1 {z : Str} (h : wrB z 1 = true) : ∃ n : Nat, n ≤ 9 ∧ z = txt (n : Int) := by
  simp only [wrB, Bool.and_eq_true, decide_eq_true_eq] at h
  obtain ⟨⟨⟨h1, h2⟩, _⟩, h3⟩ := h
  have hl := len_list z
  match e : z.cps.toList with
  | [] => rw [e] at hl; simp at hl; lia
  | [c] =>
    rw [e] at h3
    simp at h3
    obtain ⟨k, rfl⟩ := dg_of h3
    exact ⟨k, by lia, by rw [← beq_str (one_txt k)]; exact ext_list (by rw [e])⟩
  | c :: d :: r => rw [e] at hl; simp at hl; lia
theorem wr2 {z : Str} (h : wrB z 2 = true) : ∃ n : Nat, n ≤ 99 ∧ z = txt (n : Int) := by
  simp only [wrB, Bool.and_eq_true, decide_eq_true_eq, Bool.not_eq_true', Bool.and_eq_false_iff, decide_eq_false_iff_not] at h
  obtain ⟨⟨⟨h1, h2⟩, h4⟩, h3⟩ := h
  have hl := len_list z
  match e : z.cps.toList with
  | [] => rw [e] at hl; simp at hl; lia
  | [c] =>
    rw [e] at h3
    simp at h3
    obtain ⟨k, rfl⟩ := dg_of h3
    exact ⟨k, by lia, by rw [← beq_str (one_txt k)]; exact ext_list (by rw [e])⟩
  | [c, d] =>
    rw [e] at h3 h4 hl
    simp at h3 hl
    obtain ⟨k, rfl⟩ := dg_of h3.1
    obtain ⟨l, rfl⟩ := dg_of h3.2
    rcases two_txt k l with h0 | h0
    · rcases h4 with h4 | h4
      · lia
      · rw [h0] at h4; simp at h4
    · refine ⟨k * 10 + l, by lia, ?_⟩
      have := beq_str h0
      push_cast
      rw [← this]
      exact ext_list (by rw [e])
  | c :: d :: x :: r => rw [e] at hl; simp at hl; lia
theorem wrs1 {z : Str} (h : wrS z 1 = true) : ∃ n : Int, -9 ≤ n ∧ n ≤ 9 ∧ z = txt n := by
  unfold wrS at h
  split at h
  · rename_i hs
    rw [starts_one] at hs
    simp only [Bool.and_eq_true, Bool.not_eq_true', decide_eq_false_iff_not] at h
    obtain ⟨h0, h1⟩ := h
    match e : z.cps.toList with
    | [] => rw [e] at hs; simp at hs
    | c :: r =>
      rw [e] at hs
      simp at hs
      subst hs
      have hl : 1 ≤ z.length := by rw [len_list, e]; simp
      have es := slice_from (z := z) (i := 1) hl
      rw [e] at es
      simp at es
      simp only [wrB, Bool.and_eq_true, decide_eq_true_eq] at h1
      obtain ⟨⟨⟨h1, h2⟩, _⟩, h3⟩ := h1
      rw [len_list, es] at h1 h2
      rw [es] at h3
      match r, h1, h2, h3, e with
      | [], h1, _, _, _ => simp at h1
      | [d], _, _, h3, e =>
        simp at h3
        obtain ⟨k, rfl⟩ := dg_of h3
        have ez : z = ⟨#[45, 48 + (k : Nat)]⟩ := ext_list (by rw [e])
        rcases neg_txt k with hk | hk
        · refine absurd ?_ h0
          rw [ez, hk]
          exact beq_str neg_zero
        · exact ⟨-((k : Nat) : Int), by lia, by lia, by rw [ez]; exact beq_str hk⟩
      | d :: x :: r, _, h2, _, _ => simp at h2; lia
  · obtain ⟨n, h1, h2⟩ := wr1 h
    exact ⟨n, by lia, by lia, h2⟩
theorem join_back (z : Str) (c : Nat) : Txt.join (one c) (Txt.split z (one c)) = z := by
  rw [show Txt.join (one c) (Txt.split z (one c)) = Str.join (one c) (Txt.split z (one c)) from StrLaws.glued_eq_join _ _]
  exact StrLaws.join_split _ _
theorem piece_ascii {z : Str} {c : Nat} {p : Str} (h : ∀ d ∈ z.cps.toList, d < 128) (hp : p ∈ Txt.split z (one c)) : (∀ d ∈ p.cps.toList, d < 128) ∧ p.length ≤ z.length := by
  have e := StrLaws.join_split z (one c)
  have key : ∀ (ps : List Str), p ∈ ps → (∀ d ∈ p.cps.toList, d ∈ (Str.join (one c) ps).cps.toList) ∧ p.cps.toList.length ≤ (Str.join (one c) ps).cps.toList.length := fun ps => by
    induction ps with
    | nil => intro h; simp at h
    | cons a r ih =>
      intro hp
      cases r with
      | nil =>
        rw [List.mem_singleton.mp hp]
        have e1 : (Str.join (one c) [a]) = a := by
          have := StrLaws.glued_eq_join (one c) [a]
          rw [← this]
          rfl
        rw [e1]
        exact ⟨fun d hd => hd, Nat.le_refl _⟩
      | cons b r =>
        rw [join_two]
        rcases List.mem_cons.mp hp with rfl | hp
        · exact ⟨fun d hd => List.mem_append_left _ hd, by simp⟩
        · have := ih hp
          exact ⟨fun d hd => List.mem_append_right _ (List.mem_cons_of_mem _ (this.1 d hd)), by rw [List.length_append, List.length_cons]; lia⟩
  have := key _ hp
  rw [e] at this
  exact ⟨fun d hd => h d (this.1 d hd), by rw [len_list, len_list]; exact this.2⟩
end Mt
namespace Hv
open PySem L2
noncomputable def Asc (z : Str) : Prop := ∀ c ∈ z.cps.toList, c < 128
theorem fig_any : ∀ k : Fin 128, (!(Builtin.Str.occurrences figs ⟨#[(k : Nat)]⟩ 0 figs.length 1).isEmpty) = Mt.dgB k := by decide +kernel
theorem asc_all {z : Str} (h : Asc z) : z.cps.all (· < 128) = true := by
  rw [← Array.all_toList, List.all_eq_true]
  intro c hc
  exact decide_eq_true (h c hc)
theorem weakSs {X : Cx} {rest : List Stmt} {t t' : TS} (h : PSs X rest t) (w : ∀ D σ H, t' D σ H → t D σ H) : PSs X rest t' := fun pins s σ H D I q => h pins s σ H D I (w D σ H q)
noncomputable def spWrB : Sp := fun vs H Q _ => ∃ (z : Str) (m : Int), vs = [.str z, .int m] ∧ Asc z ∧ z.length ≤ 1000 ∧ ∀ H', Same H H' → Q (.bl (Mt.wrB z m)) H'
noncomputable def spWrS : Sp := fun vs H Q _ => ∃ (z : Str) (m : Int), vs = [.str z, .int m] ∧ Asc z ∧ z.length ≤ 1000 ∧ ∀ H', Same H H' → Q (.bl (Mt.wrS z m)) H'
noncomputable def tWr : TS := fun D σ H => ∃ z : Str, σ[0]? = some (some (.str z)) ∧ Asc z ∧ z.length ≤ 1000 ∧ ∀ H', Same H H' → D.rt (.bl (z.cps.toList.all Mt.dgB)) H'
section
variable {P : Program} {w : World} {K : PySem.W.Frag} {mg : Str → Option Value} {base : Heap}
theorem wr_tail {f : Addr} {cdv : Value} {A : Around} {outer : List Env} {s : Shared} {H : Hp} {E : XK} {tk : Tok} (T : Txt mg) (hF : mg "FIGURES" = some (.str figs tk)) : PSs (Cx.nox (cxOf CX0 P w K mg base ["text", "most"] "is_written" (defScope sWritten) f cdv A outer s H E)) [(defBody sWritten).getD 1 (.Pass ⟨0, 0, 0, 0⟩)] tWr := by
  refine weakSs (pss_one (ps_ret (pe_callB (call_all rfl) (by rfl) T.all boot_all (pa_cons (pe_cmp1 (defScope sWritten) ["text", "most"] [] [] rfl (pi_str (pv 0)) (fun cl C s H fp => pf_nil) (fun cl C s H fp => pe_cmpR op_in_str (pv 0) (pe_glob (v := .str figs) (by rfl) hF ⟨tk, rfl⟩) (by rfl)) (by decide +kernel)) pa_nil)))) fun D σ H1 h => ?_
  obtain ⟨z, e0, asc, hl, k⟩ := h
  have hz : z.cps.size ≤ 1000 := hl
  refine ⟨_, e0, z, rfl, asc_all asc, comp_str (z := z) (fun i ys H2 => i ≤ z.cps.size ∧ ys = ((z.cps.toList.take i).map Mt.dgB).map V.bl ∧ Same H1 H2) ⟨Nat.zero_le _, rfl, Same.refl _⟩ ?_ ?_⟩
  · rintro i c ys H2 hc ⟨hi, rfl, s2⟩
    have hil : i < z.cps.size := (Array.getElem?_eq_some_iff.mp hc).1
    rw [← Array.getElem?_toList] at hc
    have hm : c ∈ z.cps.toList := List.mem_of_getElem? hc
    refine ⟨szl (by simp; lia), _, rfl, _, _, rfl, rfl, hil, ?_, s2⟩
    have := fig_any ⟨c, asc c hm⟩
    rw [show (!(Builtin.Str.occurrences figs ⟨#[c]⟩ 0 figs.length 1).isEmpty) = Mt.dgB c from this, List.take_add_one, hc]
    simp
  · rintro ys H2 ⟨_, rfl, s2⟩ D' hD
    have e : z.cps.toList.take z.cps.size = z.cps.toList := List.take_of_length_le (by simp)
    rw [e]
    refine ⟨D', z.cps.toList.map Mt.dgB, rfl, SqL.of upd_same, ?_⟩
    rw [show (z.cps.toList.map Mt.dgB).all id = z.cps.toList.all Mt.dgB by simp [List.all_map]]
    exact k _ (same_upd2 s2 (s2.free hD))
theorem ok_wrb {f : Addr} {fd : FuncData} (F : Fun K "is_written" "is_written" sWritten f fd) (T : Txt mg) (hF : ∃ t, mg "FIGURES" = some (.str figs t)) : FnOk P w K mg base CX0 1 f fd ["text", "most"] spWrB := by
  obtain ⟨tk, hF⟩ := hF
  refine F.ok scWritten (fun vs H Q E h => ?_) (fun cdv A outer s H vs Q E hr h => ?_)
  · obtain ⟨z, m, rfl, _⟩ := h; rfl
  · obtain ⟨z, m, rfl, asc, l9, k⟩ := h
    refine ⟨_, pss_cons (ps_if (PW.pt (pw_or (pt_not (pt_chain op_le op_le pe_int (lenT T.len (by rfl) (pv 0)) (pv 1))) (pw_or1 (PW.pt (pw_and (pt_cmpR op_gt (lenT T.len (by rfl) (pv 0)) pe_int (nomark _)) (pw_and1 (pt_cmpR op_eq (pe_ix ix_str (pv 0) pe_int (by intro _ _; rfl)) pe_str (nomark _)))))))) (pss_one (ps_ret pe_bl)) pss_nil)
      (wr_tail T hF), ?_⟩
    have hz : z.length ≤ sizeLine := Nat.le_trans l9 (by decide)
    refine ⟨_, rfl, z, rfl, hz, _, _, rfl, rfl, _, rfl, ?_⟩
    by_cases h1 : (1 : Int) ≤ (z.length : Int)
    · rw [decide_eq_true h1]
      refine iteT ⟨_, rfl, _, _, rfl, rfl, _, rfl, ?_⟩
      by_cases h2 : (z.length : Int) ≤ m
      · refine iteNS h2 ⟨_, rfl, z, rfl, hz, _, _, rfl, rfl, _, rfl, ite2 (fun h3 => ?_) (fun h3 => ?_)⟩
        · have h3' : 1 < z.length := by have := of_decide_eq_true h3; lia
          cases hl : z.cps.toList with
          | nil => rw [Mt.len_list, hl] at h3'; simp at h3'
          | cons c r =>
            refine ⟨_, rfl, z, 0, c, rfl, rfl, hz, by rw [hl]; exact atI_nat (xs := c :: r) (j := 0) rfl, rfl, _, rfl, ?_⟩
            by_cases hc : c = 48
            · have e : V.str ⟨#[c]⟩ = V.str (Str.ofString "0") := by rw [hc]; rfl
              rw [decide_eq_true e]
              have ef : Mt.wrB z m = false := by simp [Mt.wrB, hl, hc, h3']
              have := k H (Same.refl _)
              rw [ef] at this
              exact iteT this
            · have ne : ¬ V.str ⟨#[c]⟩ = V.str (Str.ofString "0") := fun e => hc (by
                injection e with e'
                have e2 : (⟨#[c]⟩ : Str).cps = (Str.ofString "0").cps := congrArg Str.cps e'
                have e3 : (#[c] : Array Nat) = #[48] := e2
                simpa using e3)
              rw [decide_eq_false ne]
              have ef : Mt.wrB z m = z.cps.toList.all Mt.dgB := by
                simp only [Mt.wrB, decide_eq_true h1, decide_eq_true h2, hl]
                simp [hc]
              rw [ef] at k
              exact iteF ⟨z, rfl, asc, l9, k⟩
        · have h3' : ¬ 1 < z.length := fun z1 => h3 (decide_eq_true (by lia))
          have ef : Mt.wrB z m = z.cps.toList.all Mt.dgB := by
            simp only [Mt.wrB, decide_eq_true h1, decide_eq_true h2, decide_eq_false h3']
            simp
          rw [ef] at k
          exact iteF ⟨z, rfl, asc, l9, k⟩
      · rw [decide_eq_false h2]
        have ef : Mt.wrB z m = false := by simp only [Mt.wrB, decide_eq_false h2]; simp
        have := k H (Same.refl _)
        rw [ef] at this
        exact iteT this
    · rw [decide_eq_false h1]
      have ef : Mt.wrB z m = false := by simp only [Mt.wrB, decide_eq_false h1]; simp
      have := k H (Same.refl _)
      rw [ef] at this
      exact iteF ⟨false, rfl, iteT this⟩
theorem ok_wrs {f : Addr} {fd : FuncData} (F : Fun K "is_written_with_sign" "is_written_with_sign" sWrittenS f fd) (DW : Def P w K mg base 1 "is_written" ["text", "most"] spWrB) : FnOk P w K mg base CX0 2 f fd ["text", "most"] spWrS := by
  refine F.ok scWrittenS (fun vs H Q E h => ?_) (fun cdv A outer s H vs Q E hr h => ?_)
  · obtain ⟨z, m, rfl, _⟩ := h; rfl
  · obtain ⟨z, m, rfl, asc, l9, k⟩ := h
    have hz : z.length ≤ sizeLine := Nat.le_trans l9 (by decide)
    refine ⟨_, pss_cons (ps_if (pt_val (pe_bm PySem.F.plainAttrs_str PySem.F.slot_str_startswith PySem.F.type_str_startswith mt_startswith (pv 0) (pa_cons pe_str pa_nil)))
        (pss_one (ps_ret (pe_and (pe_cmpR op_ne (pv 0) pe_str (nomark _)) (pe_one (pe_fn DW hr (by rfl) (pa_cons (pe_slice sl_str (pv 0) (po_some pe_int) po_none) (pa_cons (pv 1) pa_nil))))))) pss_nil)
      (pss_one (ps_ret (pe_fn DW hr (by rfl) (pa_cons (pv 0) (pa_cons (pv 1) pa_nil))))), ?_⟩
    refine ⟨_, rfl, rfl, _, _, rfl, rfl, _, rfl, ?_⟩
    have em : Str.ofString "-" = Mt.one 45 := by decide +kernel
    rw [em]
    cases hs : Txt.startswith z (Mt.one 45) with
    | true =>
      by_cases h0 : z = Str.ofString "-0"
      · refine iteT ⟨_, rfl, rfl, false, ?_, iteF ?_⟩
        · show V.bl (!decide (V.str z = V.str (Str.ofString "-0"))) = _
          rw [decide_eq_true (by rw [h0])]
          rfl
        · have := k H (Same.refl _)
          rwa [show Mt.wrS z m = false by simp only [Mt.wrS, hs, if_true, decide_eq_true h0]; rfl] at this
      · refine iteT ⟨_, rfl, rfl, true, ?_, iteT ?_⟩
        · have ne : ¬ V.str z = V.str (Str.ofString "-0") := fun e => h0 (by injection e)
          show V.bl (!decide (V.str z = V.str (Str.ofString "-0"))) = _
          rw [decide_eq_false ne]
          rfl
        · refine ⟨_, rfl, _, rfl, z, rfl, hz, _, rfl, _, _, rfl, ?_, ?_, ?_⟩
          · intro c hc
            have hl : 1 ≤ z.length := by
              rw [Mt.starts_one] at hs
              rw [Mt.len_list]
              cases hh : z.cps.toList with
              | nil => rw [hh] at hs; simp at hs
              | cons a b => simp
            have := Mt.slice_from (z := z) (i := 1) hl
            have e : (Txt.slice z (some 1) none).cps.toList = z.cps.toList.drop 1 := this
            rw [e] at hc
            exact asc c (List.mem_of_mem_drop hc)
          · have hl : 1 ≤ z.length := by
              rw [Mt.starts_one] at hs
              rw [Mt.len_list]
              cases hh : z.cps.toList with
              | nil => rw [hh] at hs; simp at hs
              | cons a b => simp
            have e : (Txt.slice z (some 1) none).cps.toList = z.cps.toList.drop 1 := Mt.slice_from (z := z) (i := 1) hl
            rw [Mt.len_list, e, List.length_drop, ← Mt.len_list]
            lia
          · rwa [show Mt.wrS z m = Mt.wrB (Txt.slice z (some 1) none) m by simp only [Mt.wrS, hs, if_true, decide_eq_false h0]; rfl] at k
    | false =>
      refine iteF ⟨_, rfl, _, rfl, _, _, rfl, asc, l9, ?_⟩
      rwa [show Mt.wrS z m = Mt.wrB z m by simp only [Mt.wrS, hs]; rfl] at k
end
end Hv
namespace Hv
open PySem L2
noncomputable def spIsWG : Sp := fun vs H Q _ => ∃ (z : Str) (l1 l2 : Addr) (ps ws : List Str), vs = [.str z, .ref l1, .ref l2] ∧ Asc z ∧ z.length ≤ 1000 ∧ H l1 = some (.lst (ps.map V.str)) ∧ H l2 = some (.lst (ws.map V.str)) ∧ ps.length ≤ 1000 ∧ ws.length ≤ 1000 ∧ (∀ p ∈ ps, Asc p ∧ p.length ≤ 1000) ∧ (∀ p ∈ ws, Asc p ∧ p.length ≤ 1000) ∧
  ∀ H', Same H H' → Q (.bl (Mt.wrB z 2 && ps.all (fun p => Mt.wrB p 1) && ws.all fun p => Mt.wrS p 1)) H'
noncomputable def WrF (z : Str) : Prop := ∃ b ps ws, FrOk b ps ws ∧ z = Mt.fText b ps ws
noncomputable def spFrOr : Sp := fun vs H Q _ => ∃ v, vs = [v] ∧
  ((∃ z, v = .str z ∧ Asc z ∧ z.length ≤ 300 ∧ (∀ b ps ws f a c H', z = Mt.fText b ps ws → Same H H' → FrAt H' f a c b ps ws → H f = none → H a = none → H c = none → a ≠ c → Q (.ref f) H') ∧ (¬ WrF z → ∀ H', Same H H' → Q .non H')) ∨
  (Thing H v ∧ (∀ z, v ≠ .str z) ∧ ∀ H', Same H H' → Q .non H'))
section
variable {K : PySem.W.Frag}
theorem kit_nS : PySem.W.kitOne K (.type "NoneType") (.type "str") = some false := by kernel_rfl
theorem kit_bS : PySem.W.kitOne K (.type "bool") (.type "str") = some false := by kernel_rfl
theorem kit_iS : PySem.W.kitOne K (.type "int") (.type "str") = some false := by kernel_rfl
theorem kit_lS : PySem.W.kitOne K (.type "list") (.type "str") = some false := by kernel_rfl
theorem kit_tS : PySem.W.kitOne K (.type "tuple") (.type "str") = some false := by kernel_rfl
theorem kit_dS : PySem.W.kitOne K (.type "dict") (.type "str") = some false := by kernel_rfl
theorem thing_nstr {H : Hp} {v : V} (t : Thing H v) (n : ∀ z, v ≠ .str z) : ∃ ty, TyOf K H v ty ∧ PySem.W.kitOne K ty (.type "str") = some false := by
  cases t with
  | non => exact ⟨_, .non, kit_nS⟩
  | bl b => exact ⟨_, .bl b, kit_bS⟩
  | int i => exact ⟨_, .int i, kit_iS⟩
  | str x => exact absurd rfl (n x)
  | lst e => exact ⟨_, .lst e, kit_lS⟩
  | tup e => exact ⟨_, .tup e, kit_tS⟩
  | dK e => exact ⟨_, .dK e, kit_dS⟩
end
theorem all_take {α : Type} {p : α → Bool} {l : List α} {i : Nat} {x : α} (h : l[i]? = some x) : ((l.take (i + 1)).map p).map V.bl = ((l.take i).map p).map V.bl ++ [V.bl (p x)] := by
  rw [List.take_add_one, h]
  simp
section
variable {P : Program} {w : World} {K : PySem.W.Frag} {mg : Str → Option Value} {base : Heap}
theorem ok_iswg {f : Addr} {fd : FuncData} (F : Fun K "is_writing" "is_writing" sIsWriting f fd) (T : Txt mg) (DW : Def P w K mg base 1 "is_written" ["text", "most"] spWrB) (DS : Def P w K mg base 2 "is_written_with_sign" ["text", "most"] spWrS) :
    FnOk P w K mg base CX0 3 f fd ["base", "parts", "weights"] spIsWG := by
  refine F.ok scIsWriting (fun vs H Q E h => ?_) (fun cdv A outer s H vs Q E hr h => ?_)
  · obtain ⟨z, l1, l2, ps, ws, rfl, _⟩ := h; rfl
  · obtain ⟨z, l1, l2, ps, ws, rfl, asc, hz, h1, h2, lp, lw, ap, aw, k⟩ := h
    refine ⟨_, pss_cons (ps_if (PW.pt (pw_or (pt_not (pt_val (pe_fn DW (hr.mono (by decide)) (by rfl) (pa_cons (pv 0) (pa_cons pe_int pa_nil))))) (pw_or1 (pt_not (pt_val (pe_callB (call_all rfl) (by rfl) T.all boot_all (pa_cons (pe_cmp1 (defScope sIsWriting) ["base", "parts", "weights"] [] [] rfl (pi_list (pv 1)) (fun cl C s H fp => pf_nil) (fun cl C s H fp => pe_fn DW (hr.mono (by decide)) (by rfl) (pa_cons (pv 0) (pa_cons pe_int pa_nil))) (by decide +kernel)) pa_nil))))))) (pss_one (ps_ret pe_bl)) pss_nil)
      (pss_one (ps_ret (pe_callB (call_all rfl) (by rfl) T.all boot_all (pa_cons (pe_cmp1 (defScope sIsWriting) ["base", "parts", "weights"] [] [] rfl (pi_list (pv 2)) (fun cl C s H fp => pf_nil) (fun cl C s H fp => pe_fn DS hr (by rfl) (pa_cons (pv 0) (pa_cons pe_int pa_nil))) (by decide +kernel)) pa_nil)))), ?_⟩
    refine ⟨_, rfl, z, 2, rfl, asc, hz, fun H1 s1 => ⟨_, rfl, ?_⟩⟩
    cases e1 : Mt.wrB z 2 with
    | false =>
      rw [e1] at k
      exact iteT (k H1 s1)
    | true =>
    refine iteF ?_
    refine ⟨_, rfl, l1, rfl, ⟨_, SqL.of (s1 _ _ h1)⟩, comp_list (K := K) (a := l1) (xs := ps.map V.str) (fun i ys H2 => ys = ((ps.take i).map fun p => Mt.wrB p 1).map V.bl ∧ Same H1 H2) ⟨rfl, Same.refl _⟩ (fun i ys H2 _ q => SqL.of (q.2 _ _ (s1 _ _ h1))) ?_ ?_⟩
    · rintro i x ys H2 hx ⟨rfl, s2⟩
      obtain ⟨y, hy, rfl⟩ := str_at hx
      have hm := List.mem_of_getElem? hy
      refine ⟨szl (by simp; lia), _, rfl, y, 1, rfl, (ap y hm).1, (ap y hm).2, fun H3 s3 => ⟨?_, s2.trans s3⟩⟩
      exact (all_take hy).symm
    rintro ys H2 ⟨rfl, s2⟩ l hl
    rw [List.length_map, List.take_length]
    refine ⟨l, ps.map fun p => Mt.wrB p 1, rfl, SqL.of upd_same, _, rfl, ?_⟩
    rw [show (ps.map fun p => Mt.wrB p 1).all id = ps.all (fun p => Mt.wrB p 1) by simp [List.all_map]]
    have S3 := (s1.trans s2).trans (same_upd (o := .lst ((ps.map fun p => Mt.wrB p 1).map V.bl)) hl)
    generalize upd H2 l (.lst ((ps.map fun p => Mt.wrB p 1).map V.bl)) = H3 at S3 ⊢
    cases e2 : ps.all (fun p => Mt.wrB p 1) with
    | false =>
      rw [e1, e2] at k
      exact iteT (k H3 S3)
    | true =>
    refine iteF ?_
    rw [e1, e2] at k
    refine ⟨_, rfl, l2, rfl, ⟨_, SqL.of (S3 _ _ h2)⟩, comp_list (K := K) (a := l2) (xs := ws.map V.str) (fun i ys H4 => ys = ((ws.take i).map fun p => Mt.wrS p 1).map V.bl ∧ Same H3 H4) ⟨rfl, Same.refl _⟩ (fun i ys H4 _ q => SqL.of (q.2 _ _ (S3 _ _ h2))) ?_ ?_⟩
    · rintro i x ys H4 hx ⟨rfl, s4⟩
      obtain ⟨y, hy, rfl⟩ := str_at hx
      have hm := List.mem_of_getElem? hy
      refine ⟨szl (by simp; lia), _, rfl, y, 1, rfl, (aw y hm).1, (aw y hm).2, fun H5 s5 => ⟨?_, s4.trans s5⟩⟩
      exact (all_take hy).symm
    rintro ys H4 ⟨rfl, s4⟩ l' hl'
    rw [List.length_map, List.take_length]
    refine ⟨l', ws.map fun p => Mt.wrS p 1, rfl, SqL.of upd_same, ?_⟩
    rw [show (ws.map fun p => Mt.wrS p 1).all id = ws.all (fun p => Mt.wrS p 1) by simp [List.all_map]]
    exact k _ (same_upd2 (S3.trans s4) ((S3.trans s4).free hl'))
end
theorem pieces_nat : ∀ {ps : List Str}, (ps.all fun p => Mt.wrB p 1) = true → ∃ ns : List Nat, ps = (ns.map fun (n : Nat) => Mt.txt (n : Int)) ∧ ∀ n ∈ ns, n ≤ 9
  | [], _ => ⟨[], rfl, by simp⟩
  | p :: r, h => by
    simp only [List.all_cons, Bool.and_eq_true] at h
    obtain ⟨n, hn, rfl⟩ := Mt.wr1 h.1
    obtain ⟨ns, rfl, hs⟩ := pieces_nat h.2
    exact ⟨n :: ns, rfl, fun m hm => by
      rcases List.mem_cons.mp hm with rfl | hm
      · exact hn
      · exact hs m hm⟩
theorem pieces_int : ∀ {ps : List Str}, (ps.all fun p => Mt.wrS p 1) = true → ∃ ns : List Int, ps = ns.map Mt.txt ∧ ∀ n ∈ ns, -9 ≤ n ∧ n ≤ 9
  | [], _ => ⟨[], rfl, by simp⟩
  | p :: r, h => by
    simp only [List.all_cons, Bool.and_eq_true] at h
    obtain ⟨n, h1, h2, rfl⟩ := Mt.wrs1 h.1
    obtain ⟨ns, rfl, hs⟩ := pieces_int h.2
    exact ⟨n :: ns, rfl, fun m hm => by
      rcases List.mem_cons.mp hm with rfl | hm
      · exact ⟨h1, h2⟩
      · exact hs m hm⟩
theorem txt99 : ∀ k : Fin 100, (PySem.intText? (Mt.txt ((k : Nat) : Int)) == some ((k : Nat) : Int) && decide ((Mt.txt ((k : Nat) : Int)).length ≤ 2)) = true := by decide +kernel
theorem txt99' {n : Nat} (h : n ≤ 99) : PySem.intText? (Mt.txt (n : Int)) = some (n : Int) ∧ (Mt.txt (n : Int)).length ≤ 2 := by
  have := txt99 ⟨n, by lia⟩
  simp only [Bool.and_eq_true, decide_eq_true_eq, beq_iff_eq] at this
  exact this
theorem wr2_small : ∀ k : Fin 17, Mt.wrB (Mt.txt ((k : Nat) : Int)) 2 = true := by decide +kernel
theorem wr1_small : ∀ k : Fin 10, Mt.wrB (Mt.txt ((k : Nat) : Int)) 1 = true := by decide +kernel
theorem wrs_small : ∀ k : Fin 19, Mt.wrS (Mt.txt (((k : Nat) : Int) - 9)) 1 = true := by decide +kernel
theorem fr_written {b : Nat} {ps : List Nat} {ws : List Int} (ok : FrOk b ps ws) : (Mt.wrB (Mt.txt (b : Int)) 2 && (ps.map fun (p : Nat) => Mt.txt (p : Int)).all (fun p => Mt.wrB p 1) && (ws.map Mt.txt).all fun p => Mt.wrS p 1) = true := by
  simp only [Bool.and_eq_true, List.all_eq_true, List.mem_map, forall_exists_index, and_imp]
  refine ⟨⟨wr2_small ⟨b, by have := ok.b16; lia⟩, fun x p hp e => ?_⟩, fun x n hn e => ?_⟩
  · rw [← e]
    exact wr1_small ⟨p, by have := ok.pr p hp; lia⟩
  · rw [← e]
    have h := ok.wr n hn
    have := wrs_small ⟨(n + 9).toNat, by lia⟩
    have e2 : (((n + 9).toNat : Nat) : Int) - 9 = n := by lia
    simp only [e2] at this
    exact this
theorem txt99_inj {n m : Nat} (hn : n ≤ 99) (hm : m ≤ 99) (e : Mt.txt (n : Int) = Mt.txt (m : Int)) : n = m := by
  have h := (txt99' hn).1
  rw [e, (txt99' hm).1] at h
  injection h with h
  lia
theorem fr_of {b : Nat} {ps : List Nat} {ws : List Int} (h : isFrameD (frT b ps ws) = true) : FrOk b ps ws := by
  unfold frT at h
  rw [frame_ints] at h
  simp only [Bool.and_eq_true, decide_eq_true_eq, List.all_eq_true, List.length_map] at h
  obtain ⟨⟨⟨h1, h2⟩, h3, h4, h5⟩, h6, h7⟩ := h
  refine ⟨by lia, by lia, h4, h5, fun p hp => ?_, ?_, h6⟩
  · have := h3 (p : Int) (List.mem_map.mpr ⟨p, hp, rfl⟩)
    lia
  · have e : ((ps.map fun (p : Nat) => (p : Int)).sum : Int) = (ps.sum : Int) := by
      clear h1 h2 h3 h4 h5 h6 h7
      induction ps with
      | nil => rfl
      | cons p r ih => simp only [List.map_cons, List.sum_cons, ih]; push_cast; rfl
    rw [e] at h7
    lia
theorem sh_any {b : Nat} {ps : List Nat} {ws : List Int} (hb : b ≤ 99) (hp : ∀ p ∈ ps, p ≤ 9) (hw : ∀ x ∈ ws, -9 ≤ x ∧ x ≤ 9) (l1 : ps.length ≤ 301) (l2 : ws.length ≤ 301) : Sh (frT b ps ws) := by
  have h1 := ints_weight (ns := ps.map fun (p : Nat) => (p : Int)) fun n hn => by
    obtain ⟨p, hp', rfl⟩ := List.mem_map.mp hn
    have := hp p hp'
    lia
  have h2 := ints_weight (ns := ws) fun n hn => by have := hw n hn; lia
  have h3 := int_weight (i := (b : Int)) (by lia)
  rw [List.length_map] at h1
  unfold Sh frT
  simp only [PyData.weight, PyData.weightAll] at h3 ⊢
  lia
theorem split_len (z : Str) (c : Nat) : (Txt.split z (Mt.one c)).length ≤ z.length + 1 := by
  have e := StrLaws.join_split z (Mt.one c)
  have key : ∀ ps : List Str, ps.length ≤ (Str.join (Mt.one c) ps).cps.toList.length + 1 := fun ps => by
    induction ps with
    | nil => simp
    | cons a r ih =>
      cases r with
      | nil => simp
      | cons b r =>
        rw [Mt.join_two, List.length_append, List.length_cons]
        simp only [List.length_cons] at ih ⊢
        lia
  have := key (Txt.split z (Mt.one c))
  rw [e, ← Mt.len_list] at this
  exact this
section
variable {P : Program} {w : World} {K : PySem.W.Frag} {mg : Str → Option Value} {base : Heap}
theorem ok_fror {f : Addr} {fd : FuncData} (F : Fun K "frame_or_none" "frame_or_none" sFrameOr f fd) (T : Txt mg) (hS : mg "str" = none) (D4 : Def P w K mg base 4 "is_frame" ["thing"] spIFT) (DW : Def P w K mg base 3 "is_writing" ["base", "parts", "weights"] spIsWG) :
    FnOk P w K mg base CX0 5 f fd ["text"] spFrOr := by
  refine F.ok scFrameOr (fun vs H Q E h => ?_) (fun cdv A outer s H vs Q E hr h => ?_)
  · obtain ⟨v, rfl, _⟩ := h; rfl
  · obtain ⟨v, rfl, h⟩ := h
    have nd := scFrameOr.nd
    rcases h.symm with ⟨t, nz, k2⟩ | ⟨z, rfl, asc, hz, k1, k2⟩
    · obtain ⟨ty, t1, t2⟩ := thing_nstr (K := K) t nz
      refine ⟨_, pss_cons (ps_if (pt_not (pt_val (pe_callB call_isi (by rfl) T.isi boot_isinstance (pa_cons (pv 0) (pa_cons (pe_ty hS boot_str) pa_nil))))) (pss_one (ps_ret pe_non)) pss_nil) pss_never, ?_⟩
      exact ⟨_, rfl, _, _, _, _, rfl, t1, t2, false, rfl, iteT (k2 H (Same.refl _))⟩
    refine ⟨_, pss_cons (ps_if (pt_not (pt_val (pe_callB call_isi (by rfl) T.isi boot_isinstance (pa_cons (pv 0) (pa_cons (pe_ty hS boot_str) pa_nil))))) (pss_one (ps_ret pe_non)) pss_nil)
      (pss_cons (ps_set (i := 1) nd rfl (Or.inl rfl) (pe_bm PySem.F.plainAttrs_str PySem.F.slot_str_split PySem.F.type_str_split mt_split (pv 0) (pa_cons pe_str pa_nil)))
      (pss_cons (ps_if (pt_cmpR op_ne (lenS T.len (by rfl) (pv 1)) pe_int (nomark _)) (pss_one (ps_ret pe_non)) pss_nil)
      (pss_cons (ps_set (i := 2) nd rfl (Or.inl rfl) (pe_bm PySem.F.plainAttrs_str PySem.F.slot_str_split PySem.F.type_str_split mt_split (ixl (pv 1) pe_int) (pa_cons pe_str pa_nil)))
      (pss_cons (ps_set (i := 3) nd rfl (Or.inl rfl) (pe_bm PySem.F.plainAttrs_str PySem.F.slot_str_split PySem.F.type_str_split mt_split (ixl (pv 1) pe_int) (pa_cons pe_str pa_nil)))
      (pss_cons (ps_if (pt_not (pt_val (pe_fn DW (hr.mono (by decide)) (by rfl) (pa_cons (ixl (pv 1) pe_int) (pa_cons (pv 2) (pa_cons (pv 3) pa_nil)))))) (pss_one (ps_ret pe_non)) pss_nil)
      (pss_cons (ps_set (i := 4) nd rfl (Or.inl rfl) (pe_tup (pa_cons (pe_callTy call_int_text (by rfl) T.int boot_int (pa_cons (ixl (pv 1) pe_int) pa_nil))
        (pa_cons (pe_cmp1 (defScope sFrameOr) ["text", "pieces", "parts", "weights", "frame"] [] [] rfl (pi_list (pv 2)) (fun cl C s H fp => pf_nil) (fun cl C s H fp => pe_callTy call_int_text (by rfl) T.int boot_int (pa_cons (pv 0) pa_nil)) (by decide +kernel))
        (pa_cons (pe_cmp1 (defScope sFrameOr) ["text", "pieces", "parts", "weights", "frame"] [] [] rfl (pi_list (pv 3)) (fun cl C s H fp => pf_nil) (fun cl C s H fp => pe_callTy call_int_text (by rfl) T.int boot_int (pa_cons (pv 0) pa_nil)) (by decide +kernel)) pa_nil)))))
      (pss_one (ps_ret (pe_ifExp (pt_val (pe_fn D4 hr (by rfl) (pa_cons (pv 4) pa_nil))) (pv 4) pe_non))))))))), ?_⟩
    refine ⟨_, rfl, _, _, _, _, rfl, .str _, kit_ss, true, rfl, iteF ?_⟩
    refine ⟨_, rfl, rfl, _, _, rfl, rfl, rfl, Nat.le_trans hz (by decide), ?_⟩
    rw [Mt.colon]
    have hp0 := fun p hp => Mt.piece_ascii (z := z) (c := 58) (p := p) asc hp
    have hl0 := split_len z 58
    have hj0 := Mt.join_back z 58
    have hF : ∀ b ps ws, FrOk b ps ws → z = Mt.fText b ps ws → Txt.split z (Mt.one 58) = [Mt.txt (b : Int), Mt.pText ps, Mt.wText ws] := fun b ps ws ok e => by
      rw [e]
      exact Mt.f_split ok.b16 (fun p hp => by have := ok.pr p hp; lia) ok.wr
    generalize Txt.split z (Mt.one 58) = pcs at hp0 hl0 hj0 hF ⊢
    refine ⟨Nat.le_trans (show pcs.length ≤ 1000 by lia) (by decide), fun l0 h0 => ?_⟩
    have S0 := same_upd (o := .lst (pcs.map V.str)) h0
    have u0 : upd H l0 (.lst (pcs.map V.str)) l0 = some (.lst (pcs.map V.str)) := upd_same
    show (tSeq _ _) _ _ (upd H l0 (.lst (pcs.map V.str)))
    generalize upd H l0 (.lst (pcs.map V.str)) = H0 at S0 u0 ⊢
    refine ⟨_, rfl, l0, _, rfl, .inl (SqL.of u0), rfl, _, rfl, ?_⟩
    by_cases h3 : ¬ pcs.length = 3
    · rw [show (!decide (V.int (((pcs.map V.str).length : Nat) : Int) = V.int 3)) = true by
        rw [List.length_map]
        simp only [Bool.not_eq_true', decide_eq_false_iff_not]
        intro e
        injection e with e
        lia]
      refine iteT (k2 (fun ⟨b, ps, ws, ok, e⟩ => h3 (by rw [hF b ps ws ok e]; rfl)) H0 S0)
    have h3 : pcs.length = 3 := Decidable.of_not_not h3
    obtain ⟨p0, p1, p2, rfl⟩ : ∃ p0 p1 p2, pcs = [p0, p1, p2] := by
      match pcs, h3 with
      | [a, b, c], _ => exact ⟨a, b, c, rfl⟩
    refine iteF ?_
    have a0 := hp0 p0 (by simp)
    have a1 := hp0 p1 (by simp)
    have a2 := hp0 p2 (by simp)
    refine ⟨_, rfl, _, _, _, _, rfl, rfl, SqL.of u0, rfl, ⟨rfl, _, _, rfl, rfl, rfl, Nat.le_trans (show p1.length ≤ 1000 by lia) (by decide), ?_⟩⟩
    rw [Mt.plus]
    have hq1 := fun p hp => Mt.piece_ascii (z := p1) (c := 43) (p := p) a1.1 hp
    have hl1 := split_len p1 43
    have hj1 := Mt.join_back p1 43
    have hn1 := Mt.split_ne p1 (Mt.one 43)
    have hF1 : ∀ ps : List Nat, (ps.map fun (p : Nat) => Mt.txt (p : Int)) ≠ [] → (∀ p ∈ ps, p ≤ 16) → p1 = Mt.pText ps → Txt.split p1 (Mt.one 43) = ps.map fun (p : Nat) => Mt.txt (p : Int) := fun ps n h e => by
      rw [e]
      exact Mt.p_split (fun z => n (by rw [z]; rfl)) h
    generalize Txt.split p1 (Mt.one 43) = s1 at hq1 hl1 hj1 hn1 hF1 ⊢
    refine ⟨Nat.le_trans (show s1.length ≤ 1000 by lia) (by decide), fun l1 h1 => ?_⟩
    have S1 := same_upd (o := .lst (s1.map V.str)) h1
    have u1 : upd H0 l1 (.lst (s1.map V.str)) l1 = some (.lst (s1.map V.str)) := upd_same
    generalize upd H0 l1 (.lst (s1.map V.str)) = H1 at S1 u1 ⊢
    refine ⟨_, rfl, _, _, _, _, rfl, rfl, SqL.of (S1 _ _ u0), rfl, ⟨rfl, _, _, rfl, rfl, rfl, Nat.le_trans (show p2.length ≤ 1000 by lia) (by decide), ?_⟩⟩
    rw [Mt.space]
    have hq2 := fun p hp => Mt.piece_ascii (z := p2) (c := 32) (p := p) a2.1 hp
    have hl2 := split_len p2 32
    have hj2 := Mt.join_back p2 32
    have hF2 : ∀ ws : List Int, ws ≠ [] → (∀ x ∈ ws, -9 ≤ x ∧ x ≤ 9) → p2 = Mt.wText ws → Txt.split p2 (Mt.one 32) = ws.map Mt.txt := fun ws n h e => by
      rw [e]
      exact Mt.w_split n h
    generalize Txt.split p2 (Mt.one 32) = s2 at hq2 hl2 hj2 hF2 ⊢
    refine ⟨Nat.le_trans (show s2.length ≤ 1000 by lia) (by decide), fun l2 h2 => ?_⟩
    have S2 := same_upd (o := .lst (s2.map V.str)) h2
    have u2 : upd H1 l2 (.lst (s2.map V.str)) l2 = some (.lst (s2.map V.str)) := upd_same
    generalize upd H1 l2 (.lst (s2.map V.str)) = H2 at S2 u2 ⊢
    have S02 := S0.trans (S1.trans S2)
    refine ⟨_, rfl, _, _, _, _, rfl, rfl, SqL.of (S2 _ _ (S1 _ _ u0)), rfl, ⟨_, rfl, _, rfl, p0, l1, l2, s1, s2, rfl, a0.1, by lia, S2 _ _ u1, u2, by lia, by lia, fun p hp => ⟨(hq1 p hp).1, by have := (hq1 p hp).2; lia⟩, fun p hp => ⟨(hq2 p hp).1, by have := (hq2 p hp).2; lia⟩, fun H3 s3 => ⟨_, rfl, ?_⟩⟩⟩
    have S03 := S02.trans s3
    cases eW : (Mt.wrB p0 2 && s1.all (fun p => Mt.wrB p 1) && s2.all fun p => Mt.wrS p 1) with
    | false =>
      refine iteT (k2 (fun ⟨b, ps, ws, ok, e⟩ => ?_) H3 S03)
      have e3 := hF b ps ws ok e
      injection e3 with e30 e3
      injection e3 with e31 e3
      injection e3 with e32 e3
      have l2 := ok.l2
      have hs := ok.sum
      have hw := ok.wl
      have es1 := hF1 ps (fun z => by have := congrArg List.length z; simp at this; rw [this] at l2; simp at l2) (fun p hp => by have := ok.pr p hp; lia) e31
      have es2 := hF2 ws (fun z => by rw [z] at hw; simp at hw; lia) ok.wr e32
      rw [e30, es1, es2, fr_written ok] at eW
      cases eW
    | true =>
    simp only [Bool.and_eq_true] at eW
    obtain ⟨n0, hn0, rfl⟩ := Mt.wr2 eW.1.1
    obtain ⟨ps, rfl, hps⟩ := pieces_nat eW.1.2
    obtain ⟨ws, rfl, hws⟩ := pieces_int eW.2
    refine iteF ?_
    have v0 := s3 _ _ (S2 _ _ (S1 _ _ u0))
    have v1 := s3 _ _ (S2 _ _ u1)
    have v2 := s3 _ _ u2
    have ez : z = Mt.fText n0 ps ws := by
      rw [← hj0, ← hj1, ← hj2]
      rfl
    rw [List.length_map] at hl1 hl2
    have q1 := txt99' hn0
    refine ⟨_, rfl, _, _, _, _, rfl, rfl, SqL.of v0, rfl, ⟨_, _, rfl, q1.1, by lia, ?_⟩⟩
    refine ⟨_, rfl, l1, rfl, ⟨_, SqL.of v1⟩, comp_list (K := K) (a := l1) (xs := (ps.map fun (p : Nat) => Mt.txt (p : Int)).map V.str) (fun i ys H4 => ys = natV (ps.take i) ∧ H3 = H4) ⟨by simp [natV], rfl⟩ (fun i ys H4 _ q => by rw [← q.2]; exact SqL.of v1) ?_ ?_⟩
    · rintro i x ys H4 hx ⟨rfl, rfl⟩
      obtain ⟨y, hy, rfl⟩ := str_at hx
      obtain ⟨p, hp, rfl⟩ := map_at hy
      have hpr := txt99' (n := p) (by have := hps p (List.mem_of_getElem? hp); lia)
      refine ⟨szl (by simp [natV]; lia), _, rfl, _, _, rfl, hpr.1, by lia, ?_, rfl⟩
      rw [List.take_add_one, hp]
      simp [natV]
    rintro ys H4 ⟨rfl, rfl⟩ a ha
    rw [List.length_map, List.length_map, List.take_length]
    have S4 := same_upd (o := .lst (natV ps)) ha
    have ua : upd H3 a (.lst (natV ps)) a = some (.lst (natV ps)) := upd_same
    generalize upd H3 a (.lst (natV ps)) = H4 at S4 ua ⊢
    refine ⟨_, rfl, l2, rfl, ⟨_, SqL.of (S4 _ _ v2)⟩, comp_list (K := K) (a := l2) (xs := (ws.map Mt.txt).map V.str) (fun i ys H5 => ys = (ws.take i).map V.int ∧ H4 = H5) ⟨by simp, rfl⟩ (fun i ys H5 _ q => by rw [← q.2]; exact SqL.of (S4 _ _ v2)) ?_ ?_⟩
    · rintro i x ys H5 hx ⟨rfl, rfl⟩
      obtain ⟨y, hy, rfl⟩ := str_at hx
      obtain ⟨n, hn, rfl⟩ := map_at hy
      have hwr := hws n (List.mem_of_getElem? hn)
      refine ⟨szl (by simp; lia), _, rfl, _, _, rfl, Mt.txt_int (by lia), Nat.le_trans (Mt.txt_len (i := n) (by lia)).2 (by decide), ?_, rfl⟩
      rw [List.take_add_one, hn]
      simp
    rintro ys H5 ⟨rfl, rfl⟩ c hc
    rw [List.length_map, List.length_map, List.take_length]
    refine ⟨sz (by simp), fun g hg => ?_⟩
    have S5 := same_upd (o := .lst (ws.map V.int)) hc
    have S6 := same_upd (o := .tup [.int n0, .ref a, .ref c]) hg
    have t1 : (upd (upd H4 c (.lst (ws.map V.int))) g (.tup [.int n0, .ref a, .ref c])) g = some (.tup [.int n0, .ref a, .ref c]) := upd_same
    have t2 := S6 _ _ (S5 _ _ ua)
    have t3 := S6 _ _ (upd_same (H := H4) (a := c) (o := .lst (ws.map V.int)))
    have fg : H g = none := S03.free (S4.free (S5.free hg))
    have fa : H a = none := S03.free ha
    have fc : H c = none := S03.free (S4.free hc)
    have ac : a ≠ c := ne_of_none ua hc
    have SG := S03.trans (S4.trans (S5.trans S6))
    have tr : L2.Tree (upd (upd H4 c (.lst (ws.map V.int))) g (.tup [.int n0, .ref a, .ref c])) (.ref g) (frT n0 ps ws) :=
      .tup t1 (.cons (.int _) (.cons (.lst t2 (by rw [natV_eq]; exact trees_ints' _)) (.cons (.lst t3 (trees_ints' _)) .nil)))
    refine ⟨_, rfl, _, frT n0 ps ws, rfl, tr, sh_any hn0 hps hws (by lia) (by lia), fun H7 s7 => ⟨_, rfl, ?_⟩⟩
    cases eF : isFrameD (frT n0 ps ws) with
    | true =>
      have ok := fr_of eF
      have G : FrAt (upd (upd H4 c (.lst (ws.map V.int))) g (.tup [.int n0, .ref a, .ref c])) g a c n0 ps ws := ⟨t1, t2, t3, ok⟩
      exact iteT ⟨_, rfl, k1 n0 ps ws g a c H7 ez (SG.trans s7) (G.keep s7) fg fa fc ac⟩
    | false =>
      refine iteF (k2 (fun ⟨b, qs, vs, ok, e⟩ => ?_) H7 (SG.trans s7))
      have e3 := hF b qs vs ok e
      injection e3 with e30 e3
      injection e3 with e31 e3
      injection e3 with e32 e3
      have l2 := ok.l2
      have hs := ok.sum
      have hw := ok.wl
      have es1 := hF1 qs (fun z => by have := congrArg List.length z; simp at this; rw [this] at l2; simp at l2) (fun p hp => by have := ok.pr p hp; lia) e31
      have es2 := hF2 vs (fun z => by rw [z] at hw; simp at hw; lia) ok.wr e32
      have x0 : n0 = b := txt99_inj hn0 (by have := ok.b16; lia) e30
      have x1 : ps = qs := Mt.map_inj (fun x hx y hy h => txt99_inj (by have := hps x hx; lia) (by have := ok.pr y hy; lia) h) es1
      have x2 : ws = vs := Mt.map_inj (fun x hx y hy h => Mt.txt_inj (by have := hws x hx; lia) (by have := ok.wr y hy; lia) h) es2
      rw [x0, x1, x2, fr_isD ok] at eF
      cases eF
end
end Hv
namespace L2
open PySem PySem.Spec PyProof.Rows
noncomputable def FlyAt (h0 : Heap) (H : Hp) (h : Heap) (x : Addr) (C a0 fl : Value) : Prop := h0.get? x = none ∧ H x = none ∧
  ∃ oe vs T oT ts, h.get? x = some oe ∧ (oe.cls = C ∧ vs[0]? = some a0 ∧ oe.dict = none) ∧ oe.data = .fields vs ∧ vs[1]? = some (.ref T) ∧ h0.get? T = none ∧ H T = none ∧ T ≠ x ∧ h.get? T = some oT ∧ oT.data = .fields ts ∧ ts[3]? = some fl
noncomputable abbrev Fly (h0 : Heap) (H : Hp) (h : Heap) (x : Addr) (C a0 : Value) : Prop := FlyAt h0 H h x C a0 .none
structure Near (h0 : Heap) (H : Hp) (fs : List Addr) (h h' : Heap) : Prop where
  keep : ∀ b o, h.get? b = some o → b ∉ fs → h0.get? b ≠ none ∨ H b ≠ none → h'.get? b = some o
  slot : ∀ b o, h.get? b = some o → b ∈ fs → ∃ sl, h'.get? b = some { o with slots := sl }
  there : ∀ b o, h0.get? b ≠ none → h.get? b = some o → ∃ o', h'.get? b = some o'
theorem Near.trans {h0 : Heap} {H : Hp} {fs : List Addr} {h h1 h2 : Heap} (a : Near h0 H fs h h1) (b : Near h0 H fs h1 h2) : Near h0 H fs h h2 :=
  ⟨fun c o e n z => b.keep c o (a.keep c o e n z) n z, fun c o e hc => by
    obtain ⟨sl, e1⟩ := a.slot c o e hc
    obtain ⟨sl2, e2⟩ := b.slot c _ e1 hc
    exact ⟨sl2, e2⟩, fun c o n e => by
    obtain ⟨o1, e1⟩ := a.there c o n e
    exact b.there c o1 n e1⟩
section
variable {M : Model} {A : Around} {E : Value → Shared → Prop} {s : Shared}
theorem note_entry {b0 : Heap} {env : Env} {outer : List Env} {L x : Addr} {oe : Obj} {vs : Array Value} {head : Value} {had : Bool} {Q : Unit → Shared → Prop} (hfr : A.frames = some (env :: outer)) (hl : s.heap.FunFrames b0 (env :: outer)) (hf : env.frame = some L)
    (he : s.heap.get? x = some oe) (hd : oe.data = .fields vs) (hsz : 1 < vs.size)
    (h : ∀ (h' : Heap) (T : Addr) (oT : Obj) (ts : Array Value), s.heap.objs.size ≤ T → (∀ b o, s.heap.get? b = some o → b ∉ frs (env :: outer) → b ≠ x → h'.get? b = some o) → (∀ b o, s.heap.get? b = some o → b ∈ frs (env :: outer) → ∃ sl, h'.get? b = some { o with slots := sl }) →
      h'.get? x = some (Obj.mapFields (·.setIfInBounds 1 (.ref T)) oe) → h'.get? T = some oT → oT.data = .fields ts → ts[3]? = some (rawInt L) → Q () { s with heap := h' }) :
    wpAny M A (do let a ← frameOf env; let pl ← entryPlaceOf L had; let b ← EntryCells.newEntry head a .none (rawInt L) .none pl; setField (.ref x) 1 b) Q E s := by
  have xf : x ∉ frs (env :: outer) := fun hm => by
    obtain ⟨_, o, ho, hnf⟩ := hl.mem hm
    rw [he] at ho
    cases ho
    exact hnf vs hd
  refine wpAny_bind (wpAny_frameOf_fun hfr hl hf fun g ⟨gs, g1, g2⟩ => wpAny_bind (wpAny_entryPlaceOf fun pl hpl => ?_))
  unfold EntryCells.newEntry newFields
  refine wpAny_bind (wpAny_newObj_type ?_ (hpl.sizeOk5 _ _ _ _ _))
  have x1 : g.get? x = some oe := (g1 x xf).trans he
  have nT : g.objs.size ≠ x := Nat.ne_of_gt (Heap.lt_size x1)
  generalize hob : ({ cls := .type "traceback", data := .fields ([head, .ref L, .none, rawInt L, .none] ++ (if pl.isEmpty then List.replicate 6 Value.none else pl)).toArray } : Obj) = ob
  have nf : ob.isFreed = false := by rw [← hob]; rfl
  have x2 : (g.push ob).get? x = some oe := Heap.get?_push_of_some ob x1
  refine wpAny_setField x2 hd hsz ?_
  have dd := Obj.data_mapFields hd (·.setIfInBounds 1 (Value.ref g.objs.size))
  have tt : ((g.push ob).update x (Obj.mapFields (·.setIfInBounds 1 (Value.ref g.objs.size)))).get? g.objs.size = some ob := (Heap.get?_update_other _ _ (Ne.symm nT)).trans (Heap.get?_push_size g nf)
  refine h _ g.objs.size ob ([head, .ref L, .none, rawInt L, .none] ++ (if pl.isEmpty then List.replicate 6 Value.none else pl)).toArray (by rw [gs]; exact Nat.le_refl _) (fun b o e n nx => ?_) (fun b o e hb => ?_) (Heap.get?_update_self _ x2 (Obj.isFreed_of_fields dd)) tt (by rw [← hob]) ?_
  · exact (Heap.get?_update_other _ _ (Ne.symm nx)).trans (Heap.get?_push_of_some ob ((g1 b n).trans e))
  · obtain ⟨sl, e1⟩ := g2 b o e
    exact ⟨sl, (Heap.get?_update_other _ _ (fun z : x = b => xf (by rw [z]; exact hb))).trans (Heap.get?_push_of_some ob e1)⟩
  · first | (simp; done) | (rcases hpl with rfl | ⟨_, _, _, _, _, _, _, rfl⟩ <;> simp)
theorem new_none {h : Heap} {T : Addr} (hT : h.objs.size ≤ T) {h0 : Heap} (h0e : ∀ b o, h0.get? b = some o → ∃ o', h.get? b = some o') : h0.get? T = none := by
  cases q : h0.get? T with
  | none => rfl
  | some o =>
    obtain ⟨o', e⟩ := h0e T o q
    exact absurd (Heap.lt_size e) (Nat.not_lt.mpr hT)
theorem new_free {h : Heap} {T : Addr} (hT : h.objs.size ≤ T) {H : Hp} (htr : ∀ b o, H b = some o → ∃ o', h.get? b = some o') : H T = none := by
  cases q : H T with
  | none => rfl
  | some o =>
    obtain ⟨o', e⟩ := htr T o q
    exact absurd (Heap.lt_size e) (Nat.not_lt.mpr hT)
theorem fly_noted {b0 h0 : Heap} {H : Hp} {env : Env} {outer : List Env} {L x : Addr} {C a0 : Value} {Q : Unit → Shared → Prop} (hfr : A.frames = some (env :: outer)) (hl : s.heap.FunFrames b0 (env :: outer)) (hf : env.frame = some L)
    (fl : Fly h0 H s.heap x C a0) (h0e : ∀ b o, h0.get? b = some o → ∃ o', s.heap.get? b = some o') (htr : ∀ b o, H b = some o → ∃ o', s.heap.get? b = some o')
    (h : ∀ h', Near h0 H (frs (env :: outer)) s.heap h' → FlyAt h0 H h' x C a0 (rawInt L) → Q () { s with heap := h' }) : wpAny M A (noteFrame (.ref x) env) Q E s := by
  obtain ⟨x0, xH, oe, vs, T, oT, ts, he, ⟨c1, c2, c3⟩, hd, h1, T0, TH, Tx, hT, hdT, h3⟩ := fl
  unfold noteFrame
  simp only [hf]
  refine wpAny_bind (wpAny_field he hd h1 ?_)
  rw [if_pos (by simp)]
  refine wpAny_bind (wpAny_field hT hdT h3 ?_)
  rw [if_neg (by simp [rawInt])]
  refine wpAny_bind (wpAny_setField hT hdT (Array.getElem?_eq_some_iff.mp h3).1 ?_)
  have oth : ∀ b, b ≠ T → (s.heap.update T (Obj.mapFields (·.setIfInBounds 3 Value.none))).get? b = s.heap.get? b := fun b hb => Heap.get?_update_other _ _ (Ne.symm hb)
  have Tf : T ∉ frs (env :: outer) := fun hm => by
    obtain ⟨_, o, ho, nf⟩ := hl.mem hm
    rw [hT] at ho
    cases ho
    exact nf ts hdT
  have hl2 : (s.heap.update T (Obj.mapFields (·.setIfInBounds 3 Value.none))).FunFrames b0 (env :: outer) := hl.of_keeps fun b o e nf => ⟨o, (oth b (fun z => by rw [z, hT] at e; cases e; exact nf ts hdT)).trans e, rfl⟩
  refine note_entry (s := { s with heap := s.heap.update T (Obj.mapFields (·.setIfInBounds 3 Value.none)) }) hfr hl2 hf ((oth x (Ne.symm Tx)).trans he) hd (Array.getElem?_eq_some_iff.mp h1).1 fun h' T' oT' ts' z0 z1 z2 z3 z4 z5 z6 => ?_
  have sT : s.heap.objs.size ≤ T' := by
    have z0' : (s.heap.update T (Obj.mapFields (·.setIfInBounds 3 Value.none))).objs.size ≤ T' := z0
    rw [Heap.size_after_update] at z0'
    exact z0'
  have Tx' : T' ≠ x := Nat.ne_of_gt (Nat.lt_of_lt_of_le (Heap.lt_size he) sT)
  refine h h' ⟨fun b o e n z => z1 b o ((oth b (fun q => ?_)).trans e) n (fun q => ?_), fun b o e hb => z2 b o ((oth b (fun q => Tf (q ▸ hb))).trans e) hb, fun b o n e => ?_⟩ ⟨x0, xH, _, _, T', oT', ts', z3, ⟨(Obj.cls_mapFields _ _).trans c1, ?_, ?_⟩, Obj.data_mapFields hd _, ?_, new_none sT h0e, new_free sT htr, Tx', z4, z5, z6⟩
  · subst q; rcases z with z | z
    · exact z T0
    · exact z TH
  · subst q; rcases z with z | z
    · exact z x0
    · exact z xH
  · by_cases hb : b ∈ frs (env :: outer)
    · obtain ⟨sl, e1⟩ := z2 b o ((oth b (fun q => Tf (q ▸ hb))).trans e) hb
      exact ⟨_, e1⟩
    · exact ⟨o, z1 b o ((oth b (fun q => n (by rw [q]; exact T0))).trans e) hb (fun q => n (by rw [q]; exact x0))⟩
  · rw [Array.getElem?_setIfInBounds_ne (by decide)]; exact c2
  · obtain ⟨a, b, c, d⟩ := oe
    cases c <;> first | exact c3 | cases hd
  · rw [Array.getElem?_setIfInBounds_self_of_lt (Array.getElem?_eq_some_iff.mp h1).1]
theorem made_noted {b0 h0 : Heap} {H : Hp} {env : Env} {outer : List Env} {L x : Addr} {oe : Obj} {vs : Array Value} {a0 : Value} {Q : Unit → Shared → Prop} (hfr : A.frames = some (env :: outer)) (hl : s.heap.FunFrames b0 (env :: outer)) (hf : env.frame = some L)
    (he : s.heap.get? x = some oe) (hd : oe.data = .fields vs) (hdn : oe.dict = none) (h1 : vs[1]? = some .none) (hv0 : vs[0]? = some a0) (x0 : h0.get? x = none) (xH : H x = none) (h0e : ∀ b o, h0.get? b = some o → ∃ o', s.heap.get? b = some o')
    (htr : ∀ b o, H b = some o → ∃ o', s.heap.get? b = some o')
    (h : ∀ h', Near h0 H (frs (env :: outer)) s.heap h' → FlyAt h0 H h' x oe.cls a0 (rawInt L) → Q () { s with heap := h' }) : wpAny M A (noteFrame (.ref x) env) Q E s := by
  unfold noteFrame
  simp only [hf]
  refine wpAny_bind (wpAny_field he hd h1 ?_)
  rw [if_neg (by decide)]
  refine note_entry hfr hl hf he hd (Array.getElem?_eq_some_iff.mp h1).1 fun h' T' oT' ts' sT z1 z2 z3 z4 z5 z6 => ?_
  have Tx' : T' ≠ x := Nat.ne_of_gt (Nat.lt_of_lt_of_le (Heap.lt_size he) sT)
  refine h h' ⟨fun b o e n z => z1 b o e n (fun q => ?_), z2, fun b o n e => ?_⟩ ⟨x0, xH, _, _, T', oT', ts', z3, ⟨Obj.cls_mapFields _ _, ?_, ?_⟩, Obj.data_mapFields hd _, ?_, new_none sT h0e, new_free sT htr, Tx', z4, z5, z6⟩
  · subst q; rcases z with z | z
    · exact z x0
    · exact z xH
  · by_cases hb : b ∈ frs (env :: outer)
    · obtain ⟨sl, e1⟩ := z2 b o e hb
      exact ⟨_, e1⟩
    · exact ⟨o, z1 b o e hb (fun q => n (by rw [q]; exact x0))⟩
  · rw [Array.getElem?_setIfInBounds_ne (by decide)]; exact hv0
  · obtain ⟨a, b, c, d⟩ := oe
    cases c <;> first | exact hdn | cases hd
  · rw [Array.getElem?_setIfInBounds_self_of_lt (Array.getElem?_eq_some_iff.mp h1).1]
theorem fly_lands {b0 h0 : Heap} {H : Hp} {l : List Env} {x : Addr} {C a0 fl : Value} {Q : Unit → Shared → Prop} (hl : s.heap.FunFrames b0 l) (f : FlyAt h0 H s.heap x C a0 fl)
    (h0e : ∀ b o, h0.get? b = some o → ∃ o', s.heap.get? b = some o') (htr : ∀ b o, H b = some o → ∃ o', s.heap.get? b = some o')
    (h : ∀ h', Near h0 H (frs l) s.heap h' → Fly h0 H h' x C a0 → Q () { s with heap := h' }) : wpAny M A (setFlight (.ref x) none) Q E s := by
  obtain ⟨x0, xH, oe, vs, T, oT, ts, he, hc, hd, h1, T0, TH, Tx, hT, hdT, h3⟩ := f
  have sz3 : 3 < ts.size := (Array.getElem?_eq_some_iff.mp h3).1
  unfold setFlight
  refine wpAny_bind (wpAny_field he hd h1 ?_)
  rw [if_pos (by simp)]
  refine wpAny_setField hT hdT sz3 ?_
  have oth : ∀ b, b ≠ T → (s.heap.update T (Obj.mapFields (·.setIfInBounds 3 ((none : Option Addr).elim Value.none fun f => rawInt f)))).get? b = s.heap.get? b := fun b hb => Heap.get?_update_other _ _ (Ne.symm hb)
  have Tf : T ∉ frs l := fun hm => by
    obtain ⟨_, o, ho, nf⟩ := hl.mem hm
    rw [hT] at ho
    cases ho
    exact nf ts hdT
  have tt := Heap.get?_update_self (Obj.mapFields (·.setIfInBounds 3 ((none : Option Addr).elim Value.none fun f => rawInt f))) hT (Obj.isFreed_of_fields (Obj.data_mapFields hdT _))
  refine h _ ⟨fun b o e n z => (oth b (fun q => ?_)).trans e, fun b o e hb => ⟨o.slots, (oth b (fun q => Tf (q ▸ hb))).trans e⟩, fun b o n e => ⟨o, (oth b (fun q => n (by rw [q]; exact T0))).trans e⟩⟩ ⟨x0, xH, oe, vs, T, _, _, (oth x (Ne.symm Tx)).trans he, hc, hd, h1, T0, TH, Tx, tt, Obj.data_mapFields hdT _, ?_⟩
  · subst q; rcases z with z | z
    · exact z T0
    · exact z TH
  · rw [Array.getElem?_setIfInBounds_self_of_lt sz3]; rfl
theorem frames_slot {h h' b0 : Heap} : ∀ {l : List Env}, h.FunFrames b0 l → (∀ b o, h.get? b = some o → b ∈ frs l → ∃ sl, h'.get? b = some { o with slots := sl }) → h'.FunFrames b0 l
  | [], _, _ => trivial
  | env :: l, ⟨kk, ⟨L, o, hf, hn, ho, hd⟩, r⟩, hs => by
    have e : frs (env :: l) = L :: frs l := by rw [frs, List.filterMap_cons, hf]; rfl
    rw [e] at hs
    obtain ⟨sl, e1⟩ := hs L o ho (by simp)
    exact ⟨kk, ⟨L, _, hf, hn, e1, hd⟩, frames_slot r fun b o' eb hb => hs b o' eb (by simp [hb])⟩
theorem fly_leaves {P : Program} {w : World} {b0 h0 : Heap} {H : Hp} {env : Env} {outer : List Env} {L x : Addr} {C a0 : Value} {Q : Unit → Shared → Prop} (hfr : A.frames = some (env :: outer)) (hl : s.heap.FunFrames b0 (env :: outer)) (hf : env.frame = some L)
    (fl : Fly h0 H s.heap x C a0) (h0e : ∀ b o, h0.get? b = some o → ∃ o', s.heap.get? b = some o') (hok : HOk P w H s.heap) (hfn : ∀ b ∈ frs (env :: outer), H b = none) (htr : ∀ b o, H b = some o → ∃ o', s.heap.get? b = some o')
    (h : ∀ h', Near h0 H (frs (env :: outer)) s.heap h' → Fly h0 H h' x C a0 → Q () { s with heap := h' }) : wpAny M A (leaving env (.ref x)) Q E s := by
  unfold leaving
  refine wpAny_bind (fly_noted hfr hl hf fl h0e htr fun h2 nr fa => ?_)
  refine fly_lands (l := env :: outer) (frames_slot hl nr.slot) fa (fun b o e => ?_) (fun b o e => ?_) fun h3 nr3 fl3 => h h3 (nr.trans nr3) fl3
  · obtain ⟨o1, e1⟩ := h0e b o e
    exact nr.there b o1 (by rw [e]; exact fun z => by cases z) e1
  · obtain ⟨o1, e1⟩ := htr b o e
    exact ⟨o1, nr.keep b o1 e1 (fun z => by rw [hfn b z] at e; cases e) (.inr (by rw [e]; exact fun z => by cases z))⟩
theorem made_leaves {b0 h0 : Heap} {H : Hp} {env : Env} {outer : List Env} {L x : Addr} {oe : Obj} {vs : Array Value} {a0 : Value} {Q : Unit → Shared → Prop} (hfr : A.frames = some (env :: outer)) (hl : s.heap.FunFrames b0 (env :: outer)) (hf : env.frame = some L)
    (he : s.heap.get? x = some oe) (hd : oe.data = .fields vs) (hdn : oe.dict = none) (h1 : vs[1]? = some .none) (hv0 : vs[0]? = some a0) (x0 : h0.get? x = none) (xH : H x = none) (h0e : ∀ b o, h0.get? b = some o → ∃ o', s.heap.get? b = some o')
    (hfn : ∀ b ∈ frs (env :: outer), H b = none) (htr : ∀ b o, H b = some o → ∃ o', s.heap.get? b = some o')
    (h : ∀ h', Near h0 H (frs (env :: outer)) s.heap h' → Fly h0 H h' x oe.cls a0 → Q () { s with heap := h' }) : wpAny M A (leaving env (.ref x)) Q E s := by
  unfold leaving
  refine wpAny_bind (made_noted hfr hl hf he hd hdn h1 hv0 x0 xH h0e htr fun h2 nr fa => ?_)
  refine fly_lands (l := env :: outer) (frames_slot hl nr.slot) fa (fun b o e => ?_) (fun b o e => ?_) fun h3 nr3 fl3 => h h3 (nr.trans nr3) fl3
  · obtain ⟨o1, e1⟩ := h0e b o e
    exact nr.there b o1 (by rw [e]; exact fun z => by cases z) e1
  · obtain ⟨o1, e1⟩ := htr b o e
    exact ⟨o1, nr.keep b o1 e1 (fun z => by rw [hfn b z] at e; cases e) (.inr (by rw [e]; exact fun z => by cases z))⟩
end
end L2
namespace L2
open PySem PySem.Spec PyProof.Rows
theorem ObjOk.there {P : Program} {w : World} {H : Hp} {h : Heap} {a : Addr} {o : HO} (x : ObjOk P w H h a o) : ∃ u, h.get? a = some u := by
  cases o with
  | lst xs => obtain ⟨_, _, _, _, e⟩ := x; exact ⟨_, e⟩
  | tup xs => obtain ⟨_, _, _, ob, e, _⟩ := x; exact ⟨_, e⟩
  | dK kvs => obtain ⟨_, _, _, _, ob, _, _, e, _⟩ := x; exact ⟨_, e⟩
  | dT kvs => obtain ⟨_, _, _, _, ob, _, _, e, _⟩ := x; exact ⟨_, e⟩
  | set S n => obtain ⟨ob, _, _, _, e, _⟩ := x; exact ⟨_, e⟩
  | ins C dx fs => obtain ⟨_, _, _, e, _⟩ := x; exact ⟨_, e⟩
  | own y => obtain ⟨ob, e⟩ := x; exact ⟨_, e⟩
  | xd fs => obtain ⟨_, ⟨od, _, _, e, _⟩, _⟩ := x; exact ⟨_, e⟩
  | rng lo hi => obtain ⟨_, _, _, e⟩ := x; exact ⟨_, e⟩
  | frz ob u => exact ⟨_, x.1⟩
  | tbl ps => exact ⟨_, x⟩
  | met f y => exact ⟨_, x⟩
  | ext φ => obtain ⟨_, ⟨o, e⟩, _⟩ := x; exact ⟨_, e⟩
noncomputable def CX1 (P : Program) (w : World) : CXT := fun outer H s E e s' => ∃ (x C : Addr) (a0 : Value) (H' : Hp), e = .ref x ∧ s'.os = s.os ∧ AllBare s'.gens ∧ Un (frs outer) [] H H' s.heap s'.heap ∧ HOk P w H' s'.heap ∧ Fly s.heap H' s'.heap x (.ref C) a0 ∧ E (.ref C) none H'
section
variable {P : Program} {w : World} {K : PySem.W.Frag} {mg : Str → Option Value} {base : Heap} {N : List Str} {qual : Str} {scope : Scope} {f : Addr} {cd : Value} {A : Around} {outer : List Env} {s : Shared} {H : Hp} {E : XK}
theorem fly_xe {pins : List (Addr × Obj)} {σ : St} {H' : Hp} {s' : Shared} {x C : Addr} {a0 : Value} (I : Inv (cxOf (CX1 P w) P w K mg base N qual scope f cd A outer s H E) pins σ H' s') (fly : Fly s.heap H' s'.heap x (.ref C) a0) (hE : E (.ref C) none H') :
    (cxOf (CX1 P w) P w K mg base N qual scope f cd A outer s H E).xe (.ref x) s' := by
  have nex : ∀ b : Addr, b ∉ (cxOf (CX1 P w) P w K mg base N qual scope f cd A outer s H E).ex := fun b z => absurd (show b ∈ ([] : List Addr) from z) (by simp)
  have fsE : frs (cxOf (CX1 P w) P w K mg base N qual scope f cd A outer s H E).stack = s.heap.objs.size :: frs outer := rfl
  refine fly_leaves (P := P) (w := w) (b0 := base) (h0 := s.heap) (H := H') I.ok.frames I.stack rfl fly (fun b o e => I.base.there b o e (nex b)) I.hok I.stkFree (fun b o e => (I.hok b o e).there) fun h'' ⟨k1, k2, k3⟩ fly2 => ?_
  have old : ∀ b o, s.heap.get? b = some o → b ≠ s.heap.objs.size := fun b o e => Nat.ne_of_lt (Heap.lt_size e)
  have off : ∀ b o, s.heap.get? b = some o → b ∉ frs outer → b ∉ frs (cxOf (CX1 P w) P w K mg base N qual scope f cd A outer s H E).stack := fun b o e n z => by
    rw [fsE] at z
    rcases List.mem_cons.mp z with z | z
    · exact old b o e z
    · exact n z
  refine ⟨x, C, a0, H', rfl, I.os, I.bare, ⟨fun b o e n nb _ => ?_, fun b o e n hb _ => ?_, fun b o e n _ => I.base.free b o e n (nex b), fun b o e _ => ?_, I.base.tups, I.base.frzs, I.base.tbls⟩, fun b o e => ?_, fly2, hE⟩
  · exact k1 b o (I.base.keep b o e n nb (nex b)) (off b o e nb) (.inl (by rw [e]; exact fun z => by cases z))
  · obtain ⟨sl, e1⟩ := I.base.slot b o e n hb (nex b)
    obtain ⟨sl2, e2⟩ := k2 b _ e1 (show b ∈ s.heap.objs.size :: frs outer from List.mem_cons_of_mem _ hb)
    exact ⟨sl2, e2⟩
  · obtain ⟨o', e1⟩ := I.base.there b o e (nex b)
    exact k3 b o' (by rw [e]; exact fun z => by cases z) e1
  · refine (I.hok b o e).stay (fun c u hc q => ?_) (fun _ q => q) fun _ _ q => q
    have hcn : H' c ≠ none := by
      rcases hc with hc | hc
      · rw [hc, e]; exact fun z => by cases z
      · rw [hc]; exact fun z => by cases z
    exact k1 c u q (fun z => hcn (I.stkFree c z)) (.inr hcn)
theorem passes1 : Passes (CX1 P w) (cxOf (CX1 P w) P w K mg base N qual scope f cd A outer s H E) E := fun pins σ H1 s1 e s' I ⟨x, C, a0, H', he, os, bare, un, hok, fly, hE⟩ => by
  subst he
  have I' := I.call' os un hok bare (fun b z => absurd z (by simp))
  have nex : ∀ b : Addr, b ∉ (cxOf (CX1 P w) P w K mg base N qual scope f cd A outer s H E).ex := fun b z => absurd (show b ∈ ([] : List Addr) from z) (by simp)
  have older : ∀ b, s1.heap.get? b = none → s.heap.get? b = none := fun b z => by
    cases q : s.heap.get? b with
    | none => rfl
    | some o =>
      obtain ⟨o', e1⟩ := I.base.there b o q (nex b)
      rw [z] at e1; cases e1
  obtain ⟨x0, xH, oe, vs, T, oT, ts, he, hc, hd, h1, T0, TH, r⟩ := fly
  exact fly_xe I' ⟨older _ x0, xH, oe, vs, T, oT, ts, he, hc, hd, h1, older _ T0, TH, r⟩ hE
end
end L2
namespace L2
open PySem PySem.Spec PyProof.Rows
section
variable {P : Program} {w : World} {K : PySem.W.Frag} {mg : Str → Option Value} {base : Heap} {N : List Str} {qual : Str} {scope : Scope} {f : Addr} {cd : Value} {A : Around} {outer : List Env} {s : Shared} {H : Hp} {E : XK}
theorem made_xe {pins : List (Addr × Obj)} {σ : St} {H1 : Hp} {s1 : Shared} {x C : Addr} {vs : List Value} {h' : Heap} (I0 : Inv (cxOf (CX1 P w) P w K mg base N qual scope f cd A outer s H E) pins σ H1 s1) (hx : Heap.MadeExcOf s1.heap h' x (.ref C) vs) (hE : E (.ref C) none H1) :
    (cxOf (CX1 P w) P w K mg base N qual scope f cd A outer s H E).xe (.ref x) { s1 with heap := h' } := by
  have nex : ∀ b : Addr, b ∉ (cxOf (CX1 P w) P w K mg base N qual scope f cd A outer s H E).ex := fun b z => absurd (show b ∈ ([] : List Addr) from z) (by simp)
  have fsE : frs (cxOf (CX1 P w) P w K mg base N qual scope f cd A outer s H E).stack = s.heap.objs.size :: frs outer := rfl
  have I : Inv (cxOf (CX1 P w) P w K mg base N qual scope f cd A outer s H E) pins σ H1 { s1 with heap := h' } := I0.kept (t' := s1.toks) (h' := h') hx.keeps
  obtain ⟨t, he, _, _⟩ := hx.there
  have x0 : s.heap.get? x = none := by
    cases q : s.heap.get? x with
    | none => rfl
    | some o =>
      obtain ⟨o', e1⟩ := I0.base.there x o q (nex x)
      rw [hx.new] at e1; cases e1
  have xH : H1 x = none := by
    cases q : H1 x with
    | none => rfl
    | some o =>
      obtain ⟨o', e1⟩ := (I0.hok x o q).there
      rw [hx.new] at e1; cases e1
  refine made_leaves (b0 := base) (h0 := s.heap) (H := H1) I.ok.frames I.stack rfl he rfl rfl rfl rfl x0 xH (fun b o e => I.base.there b o e (nex b)) I.stkFree (fun b o e => (I.hok b o e).there) fun h'' ⟨k1, k2, k3⟩ fly2 => ?_
  have old : ∀ b o, s.heap.get? b = some o → b ≠ s.heap.objs.size := fun b o e => Nat.ne_of_lt (Heap.lt_size e)
  have off : ∀ b o, s.heap.get? b = some o → b ∉ frs outer → b ∉ frs (cxOf (CX1 P w) P w K mg base N qual scope f cd A outer s H E).stack := fun b o e n z => by
    rw [fsE] at z
    rcases List.mem_cons.mp z with z | z
    · exact old b o e z
    · exact n z
  refine ⟨x, C, _, H1, rfl, I.os, I.bare, ⟨fun b o e n nb _ => ?_, fun b o e n hb _ => ?_, fun b o e n _ => I.base.free b o e n (nex b), fun b o e _ => ?_, I.base.tups, I.base.frzs, I.base.tbls⟩, fun b o e => ?_, fly2, hE⟩
  · exact k1 b o (I.base.keep b o e n nb (nex b)) (off b o e nb) (.inl (by rw [e]; exact fun z => by cases z))
  · obtain ⟨sl, e1⟩ := I.base.slot b o e n hb (nex b)
    obtain ⟨sl2, e2⟩ := k2 b _ e1 (show b ∈ s.heap.objs.size :: frs outer from List.mem_cons_of_mem _ hb)
    exact ⟨sl2, e2⟩
  · obtain ⟨o', e1⟩ := I.base.there b o e (nex b)
    exact k3 b o' (by rw [e]; exact fun z => by cases z) e1
  · refine (I.hok b o e).stay (fun c u hc q => ?_) (fun _ q => q) fun _ _ q => q
    have hcn : H1 c ≠ none := by
      rcases hc with hc | hc
      · rw [hc, e]; exact fun z => by cases z
      · rw [hc]; exact fun z => by cases z
    exact k1 c u q (fun z => hcn (I.stkFree c z)) (.inr hcn)
structure OwnE (base : Heap) (C : Addr) (newId initId B : String) (bmB : List Value) : Prop where
  fb : ExcBaseFacts B newId initId bmB
  ob : ∃ bm N nm q bs hdct sn sub ab col dd k0 k1 k2 k3 k5 mN, base.get? C = some (excClassObj nm q C N bs bm hdct sn sub ab col dd k0 k1 k2 k3 k5 newId) ∧ base.Ns N mN ∧ mN "__init__" = none ∧ OwnTail base bmB bm
noncomputable def tRaise (E : XK) (C : Addr) (te : TE) : TS := fun _ σ H => te σ H fun _ H1 => E (.ref C) none H1
theorem ps_raise {x : Str} {C : Addr} {newId initId B : String} {bmB : List Value} {e : Expr} {te : TE} {np cpos pos : Pos} (O : OwnE base C newId initId B bmB) (hg : Gl (cxOf (CX1 P w) P w K mg base N qual scope f cd A outer s H E) x) (hm : mg x = some (.ref C))
    (he : PE (cxOf (CX1 P w) P w K mg base N qual scope f cd A outer s H E) e te) (hd : (x == ("__debug__" : Str)) = false := by decide)
    (hs : starEach [e] (cxOf (CX1 P w) P w K mg base N qual scope f cd A outer s H E).env = [(false, eval e (cxOf (CX1 P w) P w K mg base N qual scope f cd A outer s H E).env)] := by rfl) :
    PS (cxOf (CX1 P w) P w K mg base N qual scope f cd A outer s H E) (.Raise (some (.Call (.Name x np) [e] [] cpos)) none pos) (tRaise E C te) := by
  intro pins s1 σ H1 D I h
  obtain ⟨bm, Nc, nm, q, bs, hdct, sn, sub, ab, col, dd, k0, k1, k2, k3, k5, mN, hC, hN, hni, T⟩ := O.ob
  refine wpAny_Raise_call_subT (C := C) (nm := nm) (q := q) (N := Nc) (bs := bs) (bm := bm) (hdct := hdct) (sn := sn) (sub := sub) (ab := ab) (col := col) (dd := dd) (k0 := k0) (k1 := k1) (k2 := k2) (k3 := k3) (k5 := k5) O.fb (mN := mN) (T.hasType O.fb.hasBase) (I.ok.hd rfl) (by rw [hs]; rfl) hni ?_
  refine ld_glob I hg hm ⟨rfl, ?_⟩ hd
  rw [hs]
  refine Calls.evalArgs_plain (Calls.spliced_cons (thn (he pins s1 σ H1 _ I h) fun v s2 ⟨y, H2, I2, ry, q2⟩ => Calls.spliced_nil ?_))
  exact ⟨rfl, Nat.le_trans (show 1 ≤ 1000 by decide) (by decide), I2.bk _ _ hC, hN.keeps I2.bk, T.keeps I2.bk, fun h' e hx => made_xe I2 hx q2⟩
end
end L2
namespace L2
open PySem PySem.Spec PyProof.Rows
section
variable {P : Program} {w : World} {K : PySem.W.Frag} {mg : Str → Option Value} {base : Heap}
theorem Fun.ok1 {x qual : Str} {st : Stmt} {f : Addr} {fd : FuncData} {N ps : List Str} {k : Nat} {sp : Sp} (F : Fun K x qual st f fd) (S : FnScope N ps (defScope st)) (len : ∀ vs H Q E, sp vs H Q E → vs.length = ps.length)
    (hbody : ∀ (cdv : Value) (A : Around) (outer : List Env) (s : Shared) (H : Hp) (vs : List V) (Q : VK) (E : XK), Room k (A.deeper (envOfC qual (defScope st) s.heap.objs.size f cdv)) → sp vs H Q E →
      ∃ t, PSs (cxOf (CX1 P w) P w K mg base N qual (defScope st) f cdv A outer s H E) (defBody st) t ∧ t { nx := fun _ H' => Q .non H', rt := Q } (start N vs) H) : FnOk P w K mg base (CX1 P w) (k + 1) f fd ps sp := by
  obtain ⟨oc, od, kV, doc, pm, an, cdv, ct, osl, rfl, lk, hcd⟩ := F.ex
  exact fn_of lk hcd S len fun A outer s H vs Q E hr hsp => hbody cdv A outer s H vs Q E hr hsp
theorem FnOk.up {k : Nat} {f : Addr} {fd : FuncData} {ps : List Str} {sp : Sp} (F : FnOk P w K mg base CX0 k f fd ps sp) : FnOk P w K mg base (CX1 P w) k f fd ps sp :=
  ⟨F.len, fun A outer s H args us vs Q E hr he hb hv hs => codeAny_mono (F.run A outer s H args us vs Q E hr he hb hv hs) fun r s' hq => by
    cases r with
    | error e => exact False.elim hq
    | ok fl => cases fl <;> exact hq⟩
theorem exc_obj {C : Addr} {newId : String} {bmB : List Value} (X : K.In base) (q : PySem.W.excIn K C bmB newId = true) : ∃ (nm qn : Str) (N : Addr) (bs bm : List Value) (hdct : Bool) (sn : List Str) (sub : List Value) (ab : Bool) (col : Option Bool) (dd : Option Addr) (k0 k1 k2 k3 k5 : Option Value) (cd : ClassData),
    base.get? C = some (excClassObj nm qn C N bs bm hdct sn sub ab col dd k0 k1 k2 k3 k5 newId) ∧ PySem.W.clsIn K C = some cd ∧ cd.mro = .ref C :: bm ∧ PySem.W.nsOkIn K N = true ∧ PySem.W.nsIn K N "__init__" = some none ∧ PySem.W.tailIn K bmB bm = true := by
  unfold PySem.W.excIn at q
  split at q
  · rename_i odict cl sl look
    split at q
    · rename_i C' bm k0 k1 k2 k3 n k5 hm hs
      simp only [beq_iff_eq, Bool.and_eq_true, Bool.not_eq_true'] at q
      have ⟨⟨⟨⟨⟨eC, eN⟩, noDel⟩, ht⟩, hok⟩, hni⟩ := q
      subst eC eN
      cases cl with
      | mk nm bs mro ns qn hd sn sub ab col del =>
      have em : mro = .ref C' :: bm := hm
      have ed : del = false := noDel
      subst em ed
      have hsl : sl = #[k0, k1, k2, k3, some (.builtin n), k5] := by
        cases sl with
        | mk l => exact congrArg Array.mk hs
      subst hsl
      have ec : PySem.W.clsIn K C' = some ⟨nm, bs, .ref C' :: bm, ns, qn, hd, sn, sub, ab, col, false⟩ := by
        unfold PySem.W.clsIn
        rw [look]
      exact ⟨nm, qn, ns, bs, bm, hd, sn, sub, ab, col, odict, k0, k1, k2, k3, k5, ⟨nm, bs, .ref C' :: bm, ns, qn, hd, sn, sub, ab, col, false⟩, X _ _ look, ec, rfl, hok, hni, ht⟩
    · cases q
  · cases q
theorem own_e {C : Addr} {newId initId B : String} {bmB : List Value} (fb : ExcBaseFacts B newId initId bmB) (X : K.In base) (q : PySem.W.excIn K C bmB newId = true) : OwnE base C newId initId B bmB := by
  obtain ⟨nm, qn, ns, bs, bm, hd, sn, sub, ab, col, odict, k0, k1, k2, k3, k5, cd, a1, _, _, hok, hni, ht⟩ := exc_obj X q
  exact ⟨fb, bm, ns, nm, qn, bs, hd, sn, sub, ab, col, odict, k0, k1, k2, k3, k5, base.nsMap ns, a1, .of_isNs (PySem.W.isNs_of_in X hok), PySem.W.nsMap_none_of_in X hok hni, PySem.W.tail_of_in X ht⟩
end
end L2
namespace L2
open PySem PySem.Spec PyProof.Rows
noncomputable def XP (X : Cx) (pins : List (Addr × Obj)) (R : St → Addr → Hp → Prop) (e : Value) (s' : Shared) : Prop :=
  ∃ (x C : Addr) (a0 : Value) (σ : St) (H1 H' : Hp) (s1 : Shared), e = .ref x ∧ Inv X pins σ H1 s1 ∧ s'.os = s1.os ∧ AllBare s'.gens ∧ Un (frs X.stack) [] H1 H' s1.heap s'.heap ∧ HOk X.prog X.w H' s'.heap ∧ Fly s1.heap H' s'.heap x (.ref C) a0 ∧ R σ C H'
noncomputable abbrev TX := Ends → (St → Addr → Hp → Prop) → St → Hp → Prop
noncomputable def PX (X : Cx) (st : Stmt) (t : TX) : Prop :=
  ∀ (pins : List (Addr × Obj)) (s : Shared) (σ : St) (H : Hp) (D : Ends) (R : St → Addr → Hp → Prop), Inv X pins σ H s → t D R σ H → wpAny (model X.prog X.w) X.A (exec st X.env) (SP X pins D) (XP X pins R) s
noncomputable def PXs (X : Cx) (st : List Stmt) (t : TX) : Prop :=
  ∀ (pins : List (Addr × Obj)) (s : Shared) (σ : St) (H : Hp) (D : Ends) (R : St → Addr → Hp → Prop), Inv X pins σ H s → t D R σ H → wpAny (model X.prog X.w) X.A (execs st X.env) (SP X pins D) (XP X pins R) s
section
variable {X : Cx} {k : Nat} {f : Addr} {fd : FuncData} {ps : List Str} {sp : Sp} {x : Str} {p pos epos : Pos} {e : Expr} {es : List Expr} {t : TA}
noncomputable def xIf (tc : TT) (t u : TX) : TX := fun D R σ H => tc σ H fun c H1 => if c = true then t D R σ H1 else u D R σ H1
theorem px_if {c : Expr} {a b : List Stmt} {tc : TT} {ta tb : TX} (hc : PT X.nox c tc) (ha : PXs X a ta) (hb : PXs X b tb) : PX X (.If c a b pos) (xIf tc ta tb) := by
  intro pins s σ H D R I h
  have hT : wpAny (model X.prog X.w) X.A (isTrue c X.env (eval c X.env)) (TP X pins σ fun d H1 => if d = true then ta D R σ H1 else tb D R σ H1) (XP X pins R) s :=
    wpAny_mono (hc pins s σ H _ (I.wish _) h) (fun d s1 ⟨H1, I1, q⟩ => ⟨H1, I1.unwish, q⟩) fun _ _ z => False.elim z
  refine wpAny_If (thn hT fun d s1 ⟨H1, I1, q1⟩ => ?_)
  cases d with
  | true => exact ha pins s1 σ H1 D R I1 q1
  | false => exact hb pins s1 σ H1 D R I1 q1
theorem pxs_one {st : Stmt} {tx : TX} (h : PX X st tx) : PXs X [st] tx := fun pins s σ H D R I hw => by
  refine wpAny_execs_cons (thn (h pins s σ H D R I hw) fun fl s1 q => ?_)
  cases fl with
  | next => exact wpAny_execs_nil q
  | brk => exact q
  | cont => exact q
  | ret u => exact q
end
end L2
namespace L2
open PySem PySem.Spec PyProof.Rows
section
variable {X : Cx} {pins : List (Addr × Obj)} {σ : St} {H1 H' : Hp} {s1 : Shared} {h h2 : Heap}
theorem near_un (un : Un (frs X.stack) [] H1 H' s1.heap h) (nr : Near s1.heap H' (frs X.stack) h h2) : Un (frs X.stack) [] H1 H' s1.heap h2 :=
  ⟨fun b o e n nb nx => nr.keep b o (un.keep b o e n nb nx) nb (.inl (by rw [e]; exact fun z => by cases z)),
   fun b o e n hb nx => by
     obtain ⟨sl, e1⟩ := un.slot b o e n hb nx
     obtain ⟨sl2, e2⟩ := nr.slot b _ e1 hb
     exact ⟨sl2, e2⟩,
   un.free, fun b o e nx => by
     obtain ⟨o', e1⟩ := un.there b o e nx
     exact nr.there b o' (by rw [e]; exact fun z => by cases z) e1, un.tups, un.frzs, un.tbls⟩
theorem near_hok {P : Program} {w : World} {h0 : Heap} {fs : List Addr} (hok : HOk P w H' h) (nr : Near h0 H' fs h h2) (hfs : ∀ b ∈ fs, H' b = none) : HOk P w H' h2 := fun b o e => by
  refine (hok b o e).stay (fun c u hc q => ?_) (fun _ q => q) fun _ _ q => q
  have hcn : H' c ≠ none := by
    rcases hc with hc | hc
    · rw [hc, e]; exact fun z => by cases z
    · rw [hc]; exact fun z => by cases z
  exact nr.keep c u q (fun z => hcn (hfs c z)) (.inr hcn)
end
section
variable {X : Cx} {pins : List (Addr × Obj)} {σ : St} {H : Hp} {s : Shared}
theorem unbind_ok {M : Model} {A : Around} {E : Value → Shared → Prop} {i : Nat} {x : Str} {v : V} {Q : Unit → Shared → Prop} (I : Inv X pins σ H s) (hN : X.N.Nodup) (hi : X.N[i]? = some x) (hk : X.env.scope.names.lookup x = some .local) (hv : σ[i]? = some (some v)) (hvis : Vis X.env.scope x)
    (hko : X.env.kindOf x = some .local) (h : ∀ s', Inv X pins (σ.set i none) H s' → Q () s') : wpAny M A (unbindName X.env x) Q E s := by
  obtain ⟨m, hn, hl⟩ := id I.loc
  have hcls : (X.env.scope.kind == .class || (X.env.scope.kind == .module && X.env.locals != X.env.globals)) = false := by rw [I.ok.kind]; rfl
  have hiσ : i < σ.length := by rw [I.len]; exact (List.getElem?_eq_some_iff.mp hi).1
  have cne := I.cne
  obtain ⟨u0, r0, lk⟩ := hl i x v hi hv hvis
  have hm : m x = some u0 := by
    rcases lk with ⟨_, e⟩ | ⟨k, _⟩
    · exact e
    · rcases k with k | k
      · rw [hko] at k; cases k
      · rw [hko] at k; cases k
  refine wpAny_unbindName_local hko hn hm hcls fun h' u hn' hs => ?_
  obtain ⟨oL, _, _, hoL, _⟩ := id hn
  have far : ∀ b o, X.s₀.heap.get? b = some o → b ≠ X.env.locals := fun b o e => Nat.ne_of_lt (Nat.lt_of_lt_of_le (Heap.lt_size e) I.ok.above)
  refine h _ ⟨I.ok, I.os, I.bare, ⟨fun b o e n hb hx => (hs.2 b (far b o e)).trans (I.base.keep b o e n hb hx), fun b o e n hb hx => ?_, I.base.free, fun b o e hx => ?_, I.base.tups, I.base.frzs, I.base.tbls⟩, ⟨_, hn', fun j y v' e1 e2 e3 => ?_⟩, fun y c e => ?_, I.free, I.freeC, fun p hp => ?_, fun b ob e => ?_, by simpa using I.len⟩
  · obtain ⟨sl, e1⟩ := I.base.slot b o e n hb hx
    exact ⟨sl, (hs.2 b (far b o e)).trans e1⟩
  · obtain ⟨o', e1⟩ := I.base.there b o e hx
    exact ⟨o', (hs.2 b (far b o e)).trans e1⟩
  · by_cases hj : j = i
    · subst hj
      rw [List.getElem?_set_self hiσ] at e2
      cases e2
    · rw [List.getElem?_set_ne (Ne.symm hj)] at e2
      obtain ⟨u', r', q⟩ := hl j y v' e1 e2 e3
      refine ⟨u', r', ?_⟩
      rcases q with ⟨k, e⟩ | ⟨k, c, e, z⟩
      · have ny : y ≠ x := fun e => hj (nodup_ix hN e1 (e ▸ hi))
        exact .inl ⟨k, by show (if y = x then u else m y) = some u'; rw [if_neg ny]; exact e⟩
      · exact .inr ⟨k, c, e, z.sameBut hs (cne y c e)⟩
  · obtain ⟨w', z⟩ := I.cell y c e
    exact ⟨w', z.sameBut hs (cne y c e)⟩
  · obtain ⟨e, n, ne, nf, d⟩ := I.pin p hp
    exact ⟨(hs.2 p.1 ne).trans e, n, ne, nf, d⟩
  · refine (I.hok b ob e).stay (fun c w' hc q => (hs.2 c fun z => ?_).trans q) (fun _ q => q) fun _ _ q => q
    have hf := I.free
    rw [← z] at hf
    rcases hc with hc | hc
    · rw [← hc, hf] at e; cases e
    · rw [hf] at hc; cases hc
end
section
variable {M : Model} {A : Around} {E : Value → Shared → Prop}
noncomputable def Up (K : PySem.W.Frag) (C B : Addr) : Prop := PySem.W.mroIn K C (.ref B) = some true ∧ PySem.W.mroIn K B (.type "BaseException") = some true ∧ PySem.W.typeIn K (.ref B) = some (.type "type")
theorem matches_up {K : PySem.W.Frag} {h : Heap} {g : Array GenState} {d : Drawn} {t : Nat} {os : OsState} {e C B : Addr} {oe : Obj} {Q : Bool → Shared → Prop} (X : K.In h) (u : Up K C B) (he : h.get? e = some oe) (hcls : oe.cls = .ref C) (hq : Q true ⟨h, g, d, t, os⟩) : wpAny M A (excMatches (.ref e) (.ref B)) Q E ⟨h, g, d, t, os⟩ := by
  have L1 := PySem.W.looks_mroIn (M := M) X u.1
  have L2 := PySem.W.looks_mroIn (M := M) X u.2.1
  obtain ⟨od, cd, sl, hB⟩ : ∃ od cd sl, h.get? B = some ⟨.type "type", od, .cls cd, sl⟩ := by
    have z := u.2.1
    have y := u.2.2
    unfold PySem.W.mroIn PySem.W.clsIn at z
    split at z
    · rename_i look
      unfold PySem.W.typeIn at y
      simp only [look] at y
      cases y
      exact ⟨_, _, _, X _ _ look⟩
    · cases z
  have f := tc_notTuple
  unfold excMatches
  repeat (first | (with_reducible refine wpAny_loadPart_at he ?_; rw [hcls]) | with_reducible refine wpAny_loadPart_at hB ?_ | with_reducible refine L2.at ?_ | with_reducible refine L1.at ?_ | wp_step)
  exact hq
end
end L2
namespace L2
open PySem PySem.Spec PyProof.Rows
noncomputable abbrev Cx.marked (X : Cx) (v : Option Value) : Cx := { X with A := X.A.mark v, calm := false }
section
variable {X : Cx} {pins : List (Addr × Obj)} {σ : St} {H : Hp} {s : Shared} {v : Option Value}
theorem Inv.mark (I : Inv X pins σ H s) (v : Option Value) : Inv (X.marked v) pins σ H s :=
  ⟨⟨I.ok.mod, I.ok.kind, I.ok.glob, I.ok.blt, I.ok.above, I.ok.inj, I.ok.has, I.ok.cab, (fun z => by cases z), I.ok.frames, I.ok.stk, I.ok.exf, I.ok.bs, I.ok.bsz, I.ok.noex, I.ok.exfs, I.ok.funs, I.ok.frf⟩, I.os, I.bare, I.base, I.loc, I.cell, I.free, I.freeC, I.pin, I.hok, I.len⟩
theorem Inv.unmark (ok : X.Ok) (I : Inv (X.marked v) pins σ H s) : Inv X pins σ H s := ⟨ok, I.os, I.bare, I.base, I.loc, I.cell, I.free, I.freeC, I.pin, I.hok, I.len⟩
noncomputable def excO (x C : Addr) : HO := .ext fun h => ∃ o, h.get? x = some o ∧ o.cls = .ref C ∧ o.dict = none ∧ ∃ vs, o.data = .fields vs
theorem inv_track {x : Addr} {o : HO} (I : Inv X pins σ H s) (hx : H x = none) (x0 : X.s₀.heap.get? x = none) (xl : x ≠ X.env.locals) (xc : ∀ y c, X.env.cells.lookup y = some c → c ≠ x) (xp : ∀ p ∈ X.pn ++ pins, p.1 ≠ x) (ok : ObjOk X.prog X.w (upd H x o) s.heap x o) : Inv X pins σ (upd H x o) s := by
  have ne : ∀ b u, H b = some u → b ≠ x := fun b u e z => by rw [z, hx] at e; cases e
  have n0 : ∀ b u, X.s₀.heap.get? b = some u → b ≠ x := fun b u e z => by rw [z, x0] at e; cases e
  refine ⟨I.ok, I.os, I.bare, ⟨I.base.keep, I.base.slot, fun b u e n hx' => ?_, I.base.there, fun b xs e => ?_, fun b u xs e => ?_, fun b ps e => ?_⟩, I.loc, I.cell, by rw [upd_ne xl.symm]; exact I.free, fun y c e => by rw [upd_ne (xc y c e)]; exact I.freeC y c e, fun p hp => ?_, fun b u e => ?_, I.len⟩
  · rw [upd_ne (n0 b u e)]; exact I.base.free b u e n hx'
  · have e1 := I.base.tups b xs e
    rw [upd_ne (ne b _ e1)]; exact e1
  · have e1 := I.base.frzs b u xs e
    rw [upd_ne (ne b _ e1)]; exact e1
  · obtain ⟨more, e1⟩ := I.base.tbls b ps e
    exact ⟨more, by rw [upd_ne (ne b _ e1)]; exact e1⟩
  · obtain ⟨a1, a2, a3, a4, a5⟩ := I.pin p hp
    exact ⟨a1, by rw [upd_ne (xp p hp)]; exact a2, a3, a4, a5⟩
  · by_cases z : b = x
    · subst z
      rw [upd_same] at e
      cases e
      exact ok
    · rw [upd_ne z] at e
      exact (I.hok b u e).stay (fun _ _ _ q => q) (fun c q => by rw [upd_ne (ne c _ q)]; exact q) fun c xs q => by rw [upd_ne (ne c _ q)]; exact q
end
noncomputable def tTry (K : PySem.W.Frag) (B : Addr) (ie : Nat) (tb : TX) (ts : TS) : TS := fun D σ H => tb D (fun σ' C H' => Up K C B ∧ ∀ x, H' x = none → ts { nx := fun σ2 H2 => D.nx (σ2.set ie none) H2, rt := fun _ _ => False } (σ'.set ie (some (.ref x))) (upd H' x (excO x C))) σ H
theorem ps_try {X : Cx} {body suite : List Stmt} {b₀ : Stmt} {cx n : Str} {cp hp pos : Pos} {B : Addr} {ie : Nat} {tb : TX} {ts : TS} (hb : PXs X body tb) (hex : X.ex = []) (hst : X.stack = X.env :: X.outer) (hfrm : X.env.frame = some X.env.locals) (hN : X.N.Nodup) (hi : X.N[ie]? = some n)
    (hloc : Loc X.env.scope n) (hk : X.env.scope.names.lookup n = some .local) (hko : X.env.kindOf n = some .local) (hvis : Vis X.env.scope n) (hg : Gl X cx) (hm : X.mg cx = some (.ref B)) (hs : ∀ v, PSs (X.marked v).nox (b₀ :: suite) ts) (hd : (cx == ("__debug__" : Str)) = false := by decide) :
    PS X (.Try body [.ExceptHandler (some (.Name cx cp)) (some n) (b₀ :: suite) hp] [] [] pos) (tTry X.K B ie tb ts) := by
  intro pins s σ H D I h
  refine wpAny_Try_except (wpAny_mono (hb pins s σ H D _ I h) (fun f s1 q => ?_) fun e s1 q => ?_)
  · cases f with
    | next => exact wpAny_execs_nil q
    | brk => exact q
    | cont => exact q
    | ret u => exact q
  obtain ⟨x, C, a0, σ1, H1, H', sc, rfl, Ic, os, bare, un, hok, fly, up, hR⟩ := q
  have nil : ∀ (P : Addr → Prop), ∀ b ∈ ([] : List Addr), P b := fun _ b z => absurd z (by simp)
  have I1 : Inv X pins σ1 H' s1 := Ic.call' os un hok bare (nil _)
  have fsE : frs (X.env :: X.outer) = frs X.stack := by rw [hst]
  refine fly_noted (h0 := sc.heap) (H := H') (by rw [← hst]; exact Ic.ok.frames) (by rw [← hst]; exact I1.stack) hfrm fly (fun b o e => un.there b o e (by simp)) (fun b o e => (hok b o e).there) fun h2 nr2 fa => ?_
  rw [fsE] at nr2
  have un2 := near_un un nr2
  have hok2 := near_hok hok nr2 (fun b hb => I1.stkFree b hb)
  have I2 : Inv X pins σ1 H' { s1 with heap := h2 } := Ic.call' (s' := { s1 with heap := h2 }) os un2 hok2 bare (nil _)
  refine fly_lands (h0 := sc.heap) (H := H') (l := X.stack) I2.stack fa (fun b o e => un2.there b o e (by simp)) (fun b o e => (hok2 b o e).there) fun h3 nr3 fly3 => ?_
  have un3 := near_un un2 nr3
  have hok3 := near_hok hok2 nr3 (fun b hb => I2.stkFree b hb)
  have I3 : Inv X pins σ1 H' { s1 with heap := h3 } := Ic.call' (s' := { s1 with heap := h3 }) os un3 hok3 bare (nil _)
  obtain ⟨ox, hxo, hxc⟩ : ∃ o, h3.get? x = some o ∧ o.cls = .ref C := by
    obtain ⟨_, _, oe, _, _, _, _, e1, e2, _⟩ := fly3
    exact ⟨oe, e1, e2.1⟩
  refine wpAny_handleBy_cons (codeAny_handlers_test (ld_glob (X := X.marked (some (.ref x))) (I3.mark (some (.ref x))) hg hm ?_ hd)) (by intro z; cases z)
  refine matches_up I3.kIn up hxo hxc ?_
  refine codeAny_handlers_suite_as ?_
  refine fly_lands (h0 := sc.heap) (H := H') (l := X.stack) (fl := .none) I3.stack fly3 (fun b o e => un3.there b o e (by simp)) (fun b o e => (hok3 b o e).there) fun h4 nr4 fly4 => ?_
  have un4 := near_un un3 nr4
  have hok4 := near_hok hok3 nr4 (fun b hb => I3.stkFree b hb)
  have I4 : Inv X pins σ1 H' { s1 with heap := h4 } := Ic.call' (s' := { s1 with heap := h4 }) os un4 hok4 bare (nil _)
  obtain ⟨x0, xH, oe4, vs4, _, _, _, e4, c4, d4, _⟩ := fly4
  have old : ∀ b o, sc.heap.get? b = some o → b ≠ x := fun b o e z => by rw [z, x0] at e; cases e
  have I5 : Inv X pins σ1 (upd H' x (excO x C)) { s1 with heap := h4 } := by
    refine inv_track I4 xH ?_ ?_ ?_ ?_ ⟨⟨oe4, e4, c4.1, c4.2.2, vs4, d4⟩, ⟨oe4, e4⟩, fun g1 g2 ⟨o, a1, a2⟩ k => ⟨o, k o a1, a2⟩⟩
    · cases z : X.s₀.heap.get? x with
      | none => rfl
      | some o =>
        obtain ⟨o', e'⟩ := Ic.base.there x o z (by rw [hex]; simp)
        exact absurd rfl (old x o' e')
    · obtain ⟨m, ⟨o, _, _, ho, _⟩, _⟩ := id Ic.loc
      exact (old _ o ho).symm
    · intro y c e
      obtain ⟨w', o, ho, _⟩ := Ic.cell y c e
      exact old _ o ho
    · intro p hp'
      exact old _ _ (Ic.pin p hp').1
  refine store_ok I5 hN hi hloc (v := .ref x) rfl (fun s6 I6 => ?_) (.inr hk)
  refine wpAny_mono (hs (some (.ref x)) pins s6 _ _ _ ((I6.mark (some (.ref x))).wish _) (hR x xH)) (fun f s7 q7 => ?_) fun _ _ z => False.elim z
  cases f with
  | brk => obtain ⟨_, _, _, z⟩ := q7; exact z.elim
  | cont => obtain ⟨_, _, _, z⟩ := q7; exact z.elim
  | ret u => obtain ⟨_, _, _, _, _, z⟩ := q7; exact z.elim
  | next =>
    obtain ⟨σ7, H7, I7w, q8⟩ := q7
    have I7 : Inv X pins σ7 H7 s7 := Inv.unmark Ic.ok I7w.unwish
    have hlen : ie < σ7.length := by rw [I7.len]; exact (List.getElem?_eq_some_iff.mp hi).1
    show wpAny _ _ (bindName X.env n .none >>= fun _ => unbindBehindTheSuite X.env n hp) _ _ s7
    refine wpAny_bind (wpAny_bindName (store_ok I7 hN hi hloc (v := .non) rfl (fun s8 I8 => ?_) (.inr hk)))
    unfold unbindBehindTheSuite
    refine wpAny_onRaise (unbind_ok I8 hN hi hk (v := .non) (List.getElem?_set_self hlen) hvis hko fun s9 I9 => ?_)
    rw [List.set_set] at I9
    exact ⟨_, H7, I9, q8⟩
end L2
namespace L2
open PySem PySem.Spec PyProof.Rows PySem.W
structure ClsE (K : Frag) (C : Addr) : Prop where
  hg : findIn K (.ref C) "__getattribute__" = some (some (.builtin "BaseException.__getattribute__"))
  hh : findIn K (.ref C) "__getattr__" = some none
  fo : findObj K C none "__class__" = some (.bind (.builtin "getset_descriptor.__get__") (.builtin "object.__class__"))
  hm : mroIn K C (.type "object") = some true
  hb : mroIn K C (.type "BaseException") = some true
section
variable {prog : Program} {w : World} {A : Around} {E : Value → Shared → Prop} {s : Shared} {K : Frag} {x C : Addr} {ox : Obj}
theorem cls_some {v : Value} {b : Bool} (h : mroIn K C v = some b) : ∃ cd, clsIn K C = some cd := by
  unfold mroIn at h
  cases e : clsIn K C with
  | none => rw [e] at h; cases h
  | some cd => exact ⟨cd, rfl⟩
theorem err_entry {tk : Tok} {Q : Fin → Shared → Prop} (c : ClsE K C) (X : K.In s.heap) (I : PySem.W.InstAt s.heap x ox C none) (h : Q (.done (.ret (.ref C))) s) : wpAny (model prog w) A (Builtin.«object.__getattribute__» ⟨[.ref x, .str "__class__" tk], []⟩) Q E s := by
  have L0 := I.type (M := model prog w)
  have L1 := looks_find (M := model prog w) X I c.fo
  obtain ⟨hh, gg, d, t, os⟩ := s
  refine wpAny_bind (wpAny_pure (wpAny_bind (wpAny_pure (wpAny_bind (L0.at (wpAny_bind (L1.at ?_)))))))
  show wpAny _ _ (holding [_] (call _ _) >>= ret) _ _ _
  refine wpAny_bind (wpAny_holding (wpAny_call (class_get (s := ⟨hh, gg, d, t, os⟩) (ox := ox) (od := none) X I c.hm ?_)))
  exact wpAny_pure h
theorem err_call {tk : Tok} {R : Result → Shared → Prop} (c : ClsE K C) (X : K.In s.heap) (I : PySem.W.InstAt s.heap x ox C none) (h : R (.ok (.ret (.ref C))) s) : codeAny (model prog w) A (.call (.builtin "BaseException.__getattribute__") ⟨[.ref x, .str "__class__" tk], []⟩) R s := by
  have L0 := I.type (M := model prog w)
  have L1 := looks_mroIn (M := model prog w) X c.hb
  have LI : Looks (model prog w) s.heap (isInstance (.ref x) (.type "BaseException")) true := L0.andThen L1
  obtain ⟨hh, gg, d, t, os⟩ := s
  refine codeAny_call_builtin F.excAttr_ValueError.ga.plain F.entry_bexc_ga ?_
  have hk : builtinKind "BaseException.__getattribute__" = some .slot := by decide +kernel
  have hsplit : splitId "BaseException.__getattribute__" = some ("BaseException", "__getattribute__") := by decide +kernel
  have ha := F.args_bexc_ga (.ref x) (.str "__class__" tk)
  simp only [checkBuiltinCall, hk, hsplit]
  refine wpAny_bind (LI.at ?_)
  simp only [Bool.not_true, Bool.false_eq_true, if_false]
  unfold argsOk at ha
  generalize Manifest.signature? "BaseException.__getattribute__" = o at ha ⊢
  cases o with
  | none => exact wpAny_pure (err_entry (s := ⟨hh, gg, d, t, os⟩) c X I h)
  | some sig =>
    have ha' : Bind.checkArgs "BaseException.__getattribute__" sig ⟨[.ref x, .str "__class__" tk], []⟩ = pure () := ha
    show wpAny _ _ (Bind.checkArgs "BaseException.__getattribute__" sig ⟨[.ref x, .str "__class__" tk], []⟩) _ _ _
    rw [ha']
    exact wpAny_pure (err_entry (s := ⟨hh, gg, d, t, os⟩) c X I h)
theorem err_class {Q : Option Value → Shared → Prop} (c : ClsE K C) (X : K.In s.heap) (I : PySem.W.InstAt s.heap x ox C none) (h : Q (some (.ref C)) { s with toks := s.toks + 1 }) : wpAny (model prog w) A (getAttr? (.ref x) "__class__") Q E s := by
  obtain ⟨hh, gg, d, t, os⟩ := s
  have L0 := I.type (M := model prog w)
  have L1 := looks_findIn (M := model prog w) X c.hg
  have L2 := looks_findIn (M := model prog w) X c.hh
  unfold getAttr? getAttrBy? getAttrBy
  refine wpAny_bind (wpAny_mkText (wpAny_bind (wpAny_attempt (wpAny_holding (wpAny_bind (L0.at (wpAny_bind (L1.at ?_))))))))
  have hx2 : (Value.builtin "BaseException.__getattribute__" == Value.builtin "object.__getattribute__") = false := by decide +kernel
  have hx1 : (onTheHeap (Value.ref C) && Value.builtin "BaseException.__getattribute__" == Value.builtin "object.__getattribute__") = false := by rw [hx2]; rfl
  simp only [hx1, Bool.false_eq_true, if_false]
  unfold getAttrByItsOwn hookBefore callGetattribute boundAndCalled
  simp only [onTheHeap, if_true, Bool.false_and, Bool.false_eq_true, if_false]
  refine wpAny_bind (L2.at (wpAny_bind (wpAny_attempt (wpAny_holding ?_))))
  rw [F.excAttr_ValueError.ga.bind (.ref x)]
  refine wpAny_bind (wpAny_pure (wpAny_call (err_call (s := ⟨hh, gg, d, t + 1, os⟩) c X I ?_)))
  exact handed_on rfl (wpAny_pure h)
theorem kitx_err (c : ClsE K C) : KitX K (.ref x) (.ref C) (fun h => ∃ ox, PySem.W.InstAt h x ox C none) where
  ty := fun _ _ _ ⟨_, I⟩ => I.type
  it := fun _ _ X _ => by
    obtain ⟨cd, q⟩ := cls_some c.hm
    unfold clsIn at q
    split at q
    · rename_i a1 a2 a3 a4 look
      intro A' Q' E' s' keep z
      unfold isType loadHead
      exact wpAny_bind (wpAny_loadPart (keep _ _ (X _ _ look)) (wpAny_pure z))
    · cases q
  ne := fun h tp dd its n sl X htp => by
    obtain ⟨cd, q⟩ := cls_some c.hm
    refine Bool.eq_false_iff.mpr fun same => ?_
    have e : C = tp := Value.ref.inj (beq_iff_eq.mp same)
    subst e
    unfold clsIn at q
    split at q
    · rename_i a1 a2 a3 a4 look
      cases (X _ _ look).symm.trans htp
    · cases q
  ca := fun X ⟨_, I⟩ k => err_class c X I k
end
section
variable {X : Cx}
theorem exc_at {P : Program} {w : World} {H : Hp} {h : Heap} {x C : Addr} (ok : HOk P w H h) (e : H x = some (excO x C)) : ∃ ox, PySem.W.InstAt h x ox C none := by
  obtain ⟨⟨o, a1, a2, a3, vs, a4⟩, _⟩ := (show ObjOk P w H h x (excO x C) from ok x _ e)
  refine ⟨o, a1, a2, ?_, ?_⟩
  · unfold notCls
    rw [a4]
  · rw [a3]; exact trivial
theorem call_isiE : CallR X (.builtin "isinstance") (fun xs H Q => ∃ x C b, ∃ d : V, ∃ dv : Value, xs = [.ref x, d] ∧ H x = some (excO x C) ∧ ClsE X.K C ∧ (∀ u, RelV d u → u = dv) ∧ kitOne X.K (.ref C) dv = some b ∧ Q (.bl b) H) := by
  intro pins s σ H xs us Q I r h
  obtain ⟨x, C, b, d, dv, rfl, hx, c, hdv, e, q⟩ := h
  obtain ⟨u, v, rfl, rx, ry⟩ := vals2 r
  cases (show u = Value.ref x from rx)
  cases hdv v ry
  exact kia_one (kitx_err c) I.kIn (exc_at I.hok hx) e (fun z => nomatch z) fun tk => ⟨.bl b, H, I.tok tk, rfl, q⟩
end
end L2
namespace L2
open PySem PySem.Spec PyProof.Rows
noncomputable def spOr (a b : Sp) : Sp := fun vs H Q E => a vs H Q E ∨ b vs H Q E
section
variable {P : Program} {w : World} {K : PySem.W.Frag} {mg : Str → Option Value} {base : Heap} {CX : CXT} {k : Nat} {f : Addr} {fd : FuncData} {ps : List Str} {sp sp' : Sp} {x : Str}
theorem FnOk.or (F : FnOk P w K mg base CX k f fd ps sp) (G : FnOk P w K mg base CX k f fd ps sp') : FnOk P w K mg base CX k f fd ps (spOr sp sp') :=
  ⟨fun vs H Q E h => h.elim (F.len vs H Q E) (G.len vs H Q E), fun A outer s H args us vs Q E hr he hb hv hs => hs.elim (F.run A outer s H args us vs Q E hr he hb hv) (G.run A outer s H args us vs Q E hr he hb hv)⟩
theorem FnOk.less (F : FnOk P w K mg base CX k f fd ps sp) (h : ∀ vs H Q E, sp' vs H Q E → sp vs H Q E) : FnOk P w K mg base CX k f fd ps sp' :=
  ⟨fun vs H Q E z => F.len vs H Q E (h vs H Q E z), fun A outer s H args us vs Q E hr he hb hv hs => F.run A outer s H args us vs Q E hr he hb hv (h vs H Q E hs)⟩
structure Def1 (P : Program) (w : World) (K : PySem.W.Frag) (mg : Str → Option Value) (base : Heap) (k : Nat) (x : Str) (ps : List Str) (sp : Sp) : Prop where
  ex : ∃ f fd, FnOk P w K mg base (CX1 P w) k f fd ps sp ∧ mg x = some (.ref f) ∧ PySem.W.keepIn K (.ref f) = true ∧ Binds K fd ps []
theorem Def.less (D : Def P w K mg base k x ps sp) (h : ∀ vs H Q E, sp' vs H Q E → sp vs H Q E) : Def P w K mg base k x ps sp' := by
  obtain ⟨f, fd, G, r⟩ := D.ex
  exact ⟨f, fd, G.less h, r⟩
end
section
variable {P : Program} {w : World} {K : PySem.W.Frag} {mg : Str → Option Value} {base : Heap} {N : List Str} {qual : Str} {scope : Scope} {f : Addr} {cd : Value} {A : Around} {outer : List Env} {s : Shared} {H : Hp} {E : XK} {k : Nat} {x : Str} {ps : List Str} {sp : Sp} {e : Expr} {es : List Expr} {t : TA} {p pos : Pos}
theorem pe_fn1 (D : Def1 P w K mg base k x ps sp) (hr : Room k (cxOf (CX1 P w) P w K mg base N qual scope f cd A outer s H E).A) (hg : Gl (cxOf (CX1 P w) P w K mg base N qual scope f cd A outer s H E) x) (ha : PA (cxOf (CX1 P w) P w K mg base N qual scope f cd A outer s H E) (e :: es) t)
    (hdb : (x == ("__debug__" : Str)) = false := by decide) (he : starEach (e :: es) (cxOf (CX1 P w) P w K mg base N qual scope f cd A outer s H E).env = (false, eval e (cxOf (CX1 P w) P w K mg base N qual scope f cd A outer s H E).env) :: starEach es (cxOf (CX1 P w) P w K mg base N qual scope f cd A outer s H E).env := by rfl)
    (hpl : (backTo pos (starEach es (cxOf (CX1 P w) P w K mg base N qual scope f cd A outer s H E).env)).any (·.1) = false := by rfl) : PE (cxOf (CX1 P w) P w K mg base N qual scope f cd A outer s H E) (.Call (.Name x p) (e :: es) [] pos) (tCall sp [] E t) := by
  obtain ⟨f', fd, G, h1, h2, h3⟩ := D.ex
  exact pe_call G hr hg h1 h2 h3 .nil passes1 ha hdb he hpl
end
section
variable {X : Cx} {k : Nat} {x : Str} {ps : List Str} {sp : Sp} {e : Expr} {es : List Expr} {t : TA} {p pos epos : Pos}
end
end L2
namespace Hv
open PySem L2
section
variable {P : Program} {w : World} {K : PySem.W.Frag} {mg : Str → Option Value} {base h : Heap}
noncomputable def cs (l : List Addr) : Nat → Addr := fun j => l.getD j 0
end
end Hv
namespace L2
open PySem PySem.Spec PyProof.Rows PySem.W
theorem kitAny_no {K : Frag} {t : Value} : ∀ {its : List Value}, (∀ c ∈ its, kitOne K t c = some false) → kitAny K t its = some false
  | [], _ => by unfold kitAny; rfl
  | c :: r, h => by
    unfold kitAny
    rw [h c List.mem_cons_self]
    exact kitAny_no fun d hd => h d (List.mem_cons_of_mem _ hd)
theorem vals_refs : ∀ {cs : List Addr} {its : List Value}, Vals (cs.map V.ref) its → its = cs.map Value.ref
  | [], _, h => by cases h; rfl
  | c :: r, _, h => by
    cases h with
    | cons a b => rw [vals_refs b, List.map_cons, show _ = Value.ref c from a]
section
variable {X : Cx}
theorem call_isiET : CallR X (.builtin "isinstance") (fun xs H Q => ∃ x C t, ∃ cs : List Addr, xs = [.ref x, .ref t] ∧ H x = some (excO x C) ∧ H t = some (.tup (cs.map V.ref)) ∧ ClsE X.K C ∧ (∀ c ∈ cs, kitOne X.K (.ref C) (.ref c) = some false) ∧ Q (.bl false) H) := by
  intro pins s σ H xs us Q I r h
  obtain ⟨x, C, t, cs, rfl, hx, ht, c, hk, q⟩ := h
  obtain ⟨u, v, rfl, rx, ry⟩ := vals2 r
  cases (show u = Value.ref x from rx)
  cases (show v = Value.ref t from ry)
  obtain ⟨its, hv, ⟨⟨oc, od, dt, sl⟩, e, h2, n, h3⟩, _⟩ := I.tuple (SqT.of ht)
  have ei := vals_refs hv
  subst ei
  cases (show oc = _ from h2)
  cases (show dt = _ from h3)
  refine kia_tup (kitx_err c) I.kIn (exc_at I.hok hx) e (kitAny_no fun d hd => ?_) (fun z => nomatch z) fun tk => ⟨.bl false, H, I.tok tk, rfl, q⟩
  obtain ⟨a, ha, rfl⟩ := List.mem_map.mp hd
  exact hk a ha
end
end L2
namespace L2
open PySem PySem.Spec PyProof.Rows
section
variable {X : Cx} {k : Nat} {f : Addr} {fd : FuncData} {ps : List Str} {sp : Sp} {x n : Str} {p pn pos apos : Pos} {e : Expr} {es : List Expr} {t : TA} {i : Nat}
end
end L2
namespace L2
open PySem PySem.Spec PyProof.Rows
section
variable {X : Cx} {k : Nat} {ps : List Str} {sp : Sp} {x : Str} {p pos apos : Pos} {e tg : Expr} {es : List Expr} {t : TA} {g : TG}
noncomputable def xAsg (sp : Sp) (g : TG) (t : TA) : TX := fun D R σ H => t σ H fun vs H1 => sp vs H1 (fun v H2 => g v σ H2 D.nx) (fun C _ H2 => ∃ A, C = .ref A ∧ R σ A H2)
theorem px_asg (D : Def1 X.prog X.w X.K X.mg X.base k x ps sp) (hr : Room k X.A) (hg : Gl X x) (ha : PA X.nox (e :: es) t) (ht : PG X.nox tg g) (hdb : (x == ("__debug__" : Str)) = false := by decide) (he : starEach (e :: es) X.env = (false, eval e X.env) :: starEach es X.env := by rfl) (hpl : (backTo pos (starEach es X.env)).any (·.1) = false := by rfl)
    (hs : swapsWithSole [tg] (.Call (.Name x p) (e :: es) [] pos) apos.line X.env = pure false := by rfl) (hw : swappedStores [tg] (.Call (.Name x p) (e :: es) [] pos) X.env = pure none := by rfl)
    (h1 : (assignEach [tg] X.env).map (·.2) = [assign tg X.env] := by rfl) : PX X (.Assign [tg] (.Call (.Name x p) (e :: es) [] pos) apos) (xAsg sp g t) := by
  obtain ⟨f', fd, F, hm, hk, hb⟩ := D.ex
  intro pins s σ H D R I h
  refine wpAny_Assign_stores (wpAny_Call_Name_kw (ld_glob I hg hm ?_ hdb)) hs hw
  have hA : wpAny (model X.prog X.w) X.A (spliced (backTo pos (starEach (e :: es) X.env))) (AP X pins σ fun vs H1 => sp vs H1 (fun v H2 => g v σ H2 D.nx) (fun C _ H2 => ∃ A, C = .ref A ∧ R σ A H2)) (XP X pins R) s :=
    wpAny_mono (ha pos pins s σ H _ (I.wish _) h) (fun us s1 ⟨vs, H1, I1, r, q⟩ => ⟨vs, H1, I1.unwish, r, q⟩) fun _ _ z => False.elim z
  refine PySem.W.callWith_K (h₀ := X.base) I.ok.mod.kin hk (thn hA fun us s1 ⟨vs, H1, I1, r, q⟩ => ⟨I1.kIn, ?_⟩) he hpl
  have hl : (us ++ []).length = ps.length := by rw [List.append_nil, ← r.length]; exact F.len _ _ _ _ q
  have hbb := hb s1 us I1.kIn hl
  rw [List.append_nil] at hbb
  refine wpAny_call (codeAny_mono (F.run X.A X.stack s1 H1 ⟨us, []⟩ us vs _ _ hr I1.env0 hbb r q) fun rs s' hq => ?_)
  cases rs with
  | error er =>
    obtain ⟨y, C, a0, H', ey, os, bare, un, hok, fly, A0, eA, hR⟩ := hq
    cases eA
    exact ⟨y, C, a0, σ, H1, H', s1, ey, I1, os, bare, un, hok, fly, hR⟩
  | ok fl =>
    cases fl with
    | ret u =>
      obtain ⟨v, H', I', rv, q'⟩ := I1.after hq
      show wpAny _ _ _ _ _ _
      rw [h1]
      exact wpAny_mono (ht pins s' σ H' v u _ (I'.wish _) rv q') (fun _ s2 ⟨σ2, H2, I2, q2⟩ => ⟨σ2, H2, I2.unwish, q2⟩) fun _ _ z => False.elim z
    | next => exact False.elim hq
    | brk => exact False.elim hq
    | cont => exact False.elim hq
end
end L2
namespace Hv
open PySem L2
structure Kind (K : PySem.W.Frag) (c : Nat → Addr) (C : Addr) (i : Nat) : Prop where
  cl : ClsE K C
  lt : i < 10
  kt : ∀ j, j < 10 → PySem.W.kitOne K (.ref C) (.ref (c j)) = some (decide (i = j))
  kv : PySem.W.kitOne K (.ref C) (.type "ValueError") = some true
structure ErrNames (mg : Str → Option Value) (c : Nat → Addr) : Prop where
  n0 : mg "NoFrame" = some (.ref (c 0))
  n1 : mg "NoNumber" = some (.ref (c 1))
  n2 : mg "NoPart" = some (.ref (c 2))
  n3 : mg "NoSum" = some (.ref (c 3))
  n4 : mg "NoMiss" = some (.ref (c 4))
  n5 : mg "NoEven" = some (.ref (c 5))
  n6 : mg "NoFrames" = some (.ref (c 6))
  n7 : mg "NoText" = some (.ref (c 7))
  n8 : mg "NoName" = some (.ref (c 8))
  n9 : mg "NoRow" = some (.ref (c 9))
  ve : mg "ValueError" = none
theorem boot_VE : bootBuiltins "ValueError" = some (.type "ValueError") := by first | exact PyProof.Rows.boot_ValueError | rfl
noncomputable def spNo1 (C : Addr) : Sp := fun vs H _ E => ∃ v d, vs = [v] ∧ Tree H v d ∧ Sh d ∧ isFrameD d = false ∧ ∀ H', Same H H' → E (.ref C) none H'
theorem isf_ift : ∀ vs H Q E, spIsFrame vs H Q E → spIFT vs H Q E := fun vs H Q E ⟨f, a, c, b, ps, ws, e, G, k⟩ => ⟨_, _, e, G.tree, fr_sh G.ok, fun H' s' => by rw [fr_isD G.ok]; exact k H' s'⟩
noncomputable def spRd : Sp := fun vs H Q _ => ∃ z b ps ws, vs = [.str z] ∧ Asc z ∧ z.length ≤ 300 ∧ FrOk b ps ws ∧ z = Mt.fText b ps ws ∧ ∀ f a c H', Same H H' → FrAt H' f a c b ps ws → H f = none → H a = none → H c = none → a ≠ c → Q (.ref f) H'
noncomputable def NoWr (H : Hp) (v : V) : Prop := (∃ z, v = .str z ∧ Asc z ∧ z.length ≤ 300 ∧ ¬ WrF z) ∨ (Thing H v ∧ ∀ z, v ≠ .str z)
noncomputable def spNoRd (C : Addr) : Sp := fun vs H _ E => ∃ v, vs = [v] ∧ NoWr H v ∧ ∀ H', Same H H' → E (.ref C) none H'
section
variable {P : Program} {w : World} {K : PySem.W.Frag} {mg : Str → Option Value} {base : Heap} {C : Addr} {newId initId B : String} {bmB : List Value}
theorem ok_need1 {f : Addr} {fd : FuncData} (F : Fun K "need_frame" "need_frame" sNeedFrame f fd) (D4 : Def P w K mg base 4 "is_frame" ["thing"] spIFT) (O : OwnE base C newId initId B bmB) (hm : mg "NoFrame" = some (.ref C)) : FnOk P w K mg base (CX1 P w) 5 f fd ["thing"] (spNo1 C) := by
  refine F.ok1 scNeedFrame (fun vs H Q E h => ?_) (fun cdv A outer s H vs Q E hr h => ?_)
  · obtain ⟨v, d, rfl, _⟩ := h; rfl
  · obtain ⟨v, d, rfl, t, hs, hd, k⟩ := h
    refine ⟨_, pss_one (ps_if (pt_not (pt_val (pe_fn D4 hr (by rfl) (pa_cons (pv 0) pa_nil)))) (pss_one (ps_raise O (by rfl) hm pe_str)) pss_nil), ?_⟩
    exact ⟨_, rfl, v, d, rfl, t, hs, fun H1 s1 => by rw [hd]; exact ⟨_, rfl, iteT (k H1 s1)⟩⟩
theorem ok_show1 {f : Addr} {fd : FuncData} (F : Fun K "show_frame" "show_frame" sShowFrame f fd) (D5 : Def1 P w K mg base 5 "need_frame" ["thing"] (spOr spNeedFrame (spNo1 C))) : FnOk P w K mg base (CX1 P w) 6 f fd ["frame"] (spNo1 C) := by
  refine F.ok1 scShow (fun vs H Q E h => ?_) (fun cdv A outer s H vs Q E hr h => ?_)
  · obtain ⟨v, d, rfl, _⟩ := h; rfl
  · obtain ⟨v, d, rfl, t, hs, hd, k⟩ := h
    refine ⟨_, pss_cons (ps_expr (pe_fn1 D5 hr (by rfl) (pa_cons (pv 0) pa_nil))) pss_never, ?_⟩
    exact ⟨_, rfl, .inr ⟨v, d, rfl, t, hs, hd, k⟩⟩
theorem ok_rd {f : Addr} {fd : FuncData} (F : Fun K "read_frame" "read_frame" sReadFrame f fd) (D : Def P w K mg base 5 "frame_or_none" ["text"] spFrOr) : FnOk P w K mg base CX0 6 f fd ["text"] spRd := by
  refine F.ok scReadFrame (fun vs H Q E h => ?_) (fun cdv A outer s H vs Q E hr h => ?_)
  · obtain ⟨z, b, ps, ws, rfl, _⟩ := h; rfl
  · obtain ⟨z, b, ps, ws, rfl, asc, hl, ok, e, k⟩ := h
    have nd := scReadFrame.nd
    refine ⟨_, pss_cons (ps_set (i := 1) nd rfl (Or.inl rfl) (pe_fn D hr (by rfl) (pa_cons (pv 0) pa_nil)))
      (pss_cons (ps_if (pt_cmpR op_isN (pv 1) pe_non (nomark _)) pss_never pss_nil)
      (pss_one (ps_ret (pv 1)))), ?_⟩
    refine ⟨_, rfl, _, rfl, .inl ⟨z, rfl, asc, hl, fun b' ps' ws' g a c H' e' s' G f1 f2 f3 f4 => ⟨_, rfl, rfl, _, rfl, iteF ⟨_, rfl, ?_⟩⟩, fun n => absurd ⟨b, ps, ws, ok, e⟩ n⟩⟩
    have w0 : ∀ {b : Nat} {ps : List Nat} {ws : List Int}, FrOk b ps ws → ws ≠ [] := fun {b ps ws} ok z => by
      have h1 := ok.wl
      have h2 := ok.sum
      rw [z] at h1
      simp at h1
      lia
    have p16 : ∀ {b : Nat} {ps : List Nat} {ws : List Int}, FrOk b ps ws → ∀ p ∈ ps, p ≤ 16 := fun ok p hp => by have := ok.pr p hp; lia
    obtain ⟨rfl, rfl, rfl⟩ := Mt.f_inj ok.b16 (p16 ok) ok.wr G.ok.b16 (p16 G.ok) G.ok.wr (by have := ok.l2; intro z; rw [z] at this; simp at this) (by have := G.ok.l2; intro z; rw [z] at this; simp at this) (w0 ok) (w0 G.ok) (e.symm.trans e')
    exact k g a c H' s' G f1 f2 f3 f4
theorem ok_rd1 {f : Addr} {fd : FuncData} (F : Fun K "read_frame" "read_frame" sReadFrame f fd) (D : Def P w K mg base 5 "frame_or_none" ["text"] spFrOr) (O : OwnE base C newId initId B bmB) (hm : mg "NoText" = some (.ref C)) : FnOk P w K mg base (CX1 P w) 6 f fd ["text"] (spNoRd C) := by
  refine F.ok1 scReadFrame (fun vs H Q E h => ?_) (fun cdv A outer s H vs Q E hr h => ?_)
  · obtain ⟨v, rfl, _⟩ := h; rfl
  · obtain ⟨v, rfl, h, k⟩ := h
    have nd := scReadFrame.nd
    refine ⟨_, pss_cons (ps_set (i := 1) nd rfl (Or.inl rfl) (pe_fn D hr (by rfl) (pa_cons (pv 0) pa_nil)))
      (pss_cons (ps_if (pt_cmpR op_isN (pv 1) pe_non (nomark _)) (pss_one (ps_raise O (by rfl) hm pe_str)) pss_nil) pss_never), ?_⟩
    rcases h with ⟨z, rfl, asc, hl, nw⟩ | ⟨t, nz⟩
    · exact ⟨_, rfl, _, rfl, .inl ⟨z, rfl, asc, hl, fun b ps ws g a c H' e s' G _ _ _ _ => absurd ⟨b, ps, ws, G.ok, e⟩ nw, fun _ H' s' => ⟨_, rfl, rfl, _, rfl, iteT (k H' s')⟩⟩⟩
    · exact ⟨_, rfl, _, rfl, .inr ⟨t, nz, fun H' s' => ⟨_, rfl, rfl, _, rfl, iteT (k H' s')⟩⟩⟩
end
noncomputable def wdI (i : Nat) : Str := if i = 7 then "text" else "frame"
noncomputable def tAS (K : PySem.W.Frag) (c : Nat → Addr) : TS := fun D σ H => ∃ s0 s1 s2 s4 s5 x C, ∃ i : Nat, σ = [s0, s1, s2, some (.ref x), s4, s5] ∧ H x = some (excO x C) ∧ Kind K c C i ∧ (i = 7 ∨ i = 0) ∧ ∀ k o (l : Addr) H', Same H H' → H' l = some (.lst [.bl true, .str (wdI i)]) → D.nx [s0, s1, some (.ref l), some (.ref x), k, o] H'
noncomputable abbrev namA : List Str := ["ask", "thing", "found", "e", "kinds", "others"]
theorem scAsked : FnScope namA ["ask", "thing"] (defScope sLawAsked) := ⟨rfl, rfl, rfl, by decide +kernel, rfl, by decide +kernel, by decide +kernel⟩
noncomputable def spAsk : Sp := fun vs H Q _ => ∃ (v : V),
  (vs = [.int 0, v] ∧ ((∃ z b ps ws, v = .str z ∧ Asc z ∧ z.length ≤ 300 ∧ FrOk b ps ws ∧ z = Mt.fText b ps ws ∧ ∀ l f a c H', Same H H' → H' l = some (.lst [.bl false, .ref f]) → FrAt H' f a c b ps ws → Q (.ref l) H') ∨ (NoWr H v ∧ ∀ l H', Same H H' → H' l = some (.lst [.bl true, .str "text"]) → Q (.ref l) H'))) ∨
  (vs = [.int 1, v] ∧ ((∃ f a c b ps ws, v = .ref f ∧ FrAt H f a c b ps ws ∧ ∀ l H', Same H H' → H' l = some (.lst [.bl false, .str (Mt.fText b ps ws)]) → Q (.ref l) H') ∨ (∃ d, Tree H v d ∧ Sh d ∧ isFrameD d = false ∧ ∀ l H', Same H H' → H' l = some (.lst [.bl true, .str "frame"]) → Q (.ref l) H')))
section
variable {P : Program} {w : World} {K : PySem.W.Frag} {mg : Str → Option Value} {base : Heap} {c : Nat → Addr}
theorem ok_asked {f : Addr} {fd : FuncData} {B : Addr} (F : Fun K "_law_asked" "_law_asked" sLawAsked f fd) (T : Txt mg) (en : ErrNames mg c) (hB : mg "HalfError" = some (.ref B)) (U0 : Up K (c 0) B) (U7 : Up K (c 7) B) (k0 : Kind K c (c 0) 0) (k7 : Kind K c (c 7) 7)
    (DR : Def1 P w K mg base 6 "read_frame" ["text"] (spOr spRd (spNoRd (c 7)))) (DS : Def1 P w K mg base 6 "show_frame" ["frame"] (spOr spShow (spNo1 (c 0)))) : FnOk P w K mg base CX0 7 f fd ["ask", "thing"] spAsk := by
  refine F.ok scAsked (fun vs H Q E h => ?_) (fun cdv A outer s H vs Q E hr h => ?_)
  · obtain ⟨v, ⟨rfl, _⟩ | ⟨rfl, _⟩⟩ := h <;> rfl
  · have nd := scAsked.nd
    obtain ⟨ask, v, rfl⟩ : ∃ ask v, vs = [V.int ask, v] := by
      obtain ⟨v, ⟨rfl, _⟩ | ⟨rfl, _⟩⟩ := h
      · exact ⟨_, _, rfl⟩
      · exact ⟨_, _, rfl⟩
    refine ⟨_, pss_cons (ps_set (i := 2) nd rfl (Or.inl rfl) (pe_lst (pa_cons pe_bl (pa_cons pe_non pa_nil))))
      (pss_cons (ps_try (ie := 3) (pxs_one (px_if (pt_cmpR op_eq (pv 0) pe_int (nomark _)) (pxs_one (px_asg DR hr (by rfl) (pa_cons (pv 1) pa_nil) (pg_sub (pv 2) pe_int set_list)))
            (pxs_one (px_asg DS hr (by rfl) (pa_cons (pv 1) pa_nil) (pg_sub (pv 2) pe_int set_list))))) rfl rfl rfl nd rfl (Or.inl rfl) rfl rfl (Or.inl rfl) (by rfl) hB
          (fun v => weakSs (t' := tAS K c) (pss_cons (ps_set (i := 4) nd rfl (Or.inl rfl) (pe_lst (pa_cons (pe_callB call_isiE (by rfl) T.isi boot_isinstance (pa_cons (pv 3) (pa_cons (pe_glob (v := .ref (c 7)) (by rfl) en.n7 rfl) pa_nil))) (pa_cons (pe_callB call_isiE (by rfl) T.isi boot_isinstance (pa_cons (pv 3) (pa_cons (pe_glob (v := .ref (c 0)) (by rfl) en.n0 rfl) pa_nil))) (pa_cons (pe_callB call_isiE (by rfl) T.isi boot_isinstance (pa_cons (pv 3) (pa_cons (pe_ty en.ve boot_VE) pa_nil))) pa_nil)))))
          (pss_cons (ps_set (i := 5) nd rfl (Or.inl rfl) (pe_callB call_isiET (by rfl) T.isi boot_isinstance (pa_cons (pv 3) (pa_cons (pe_tup (pa_cons (pe_glob (v := .ref (c 5)) (by rfl) en.n5 rfl) (pa_cons (pe_glob (v := .ref (c 6)) (by rfl) en.n6 rfl) (pa_cons (pe_glob (v := .ref (c 4)) (by rfl) en.n4 rfl) (pa_cons (pe_glob (v := .ref (c 8)) (by rfl) en.n8 rfl) (pa_cons (pe_glob (v := .ref (c 1)) (by rfl) en.n1 rfl) pa_nil)))))) pa_nil))))
          (pss_cons (ps_set (i := 5) nd rfl (Or.inl rfl) (pe_or (pv 5) (pe_one (pe_callB call_isiET (by rfl) T.isi boot_isinstance (pa_cons (pv 3) (pa_cons (pe_tup (pa_cons (pe_glob (v := .ref (c 2)) (by rfl) en.n2 rfl) (pa_cons (pe_glob (v := .ref (c 9)) (by rfl) en.n9 rfl) (pa_cons (pe_glob (v := .ref (c 3)) (by rfl) en.n3 rfl) pa_nil)))) pa_nil))))))
          (pss_cons (ps_set (i := 2) nd rfl (Or.inl rfl) (pe_lst (pa_cons pe_bl (pa_cons pe_str pa_nil))))
          (pss_one (ps_if (PW.pt (pw_and (pt_val (ixl (pv 4) pe_int)) (pw_and (pt_not (pt_val (pv 5))) (pw_and1 (pt_cmpR op_ne (ixl (pv 4) pe_int) (ixl (pv 4) pe_int) (nomark _)))))) (pss_one (ps_set (i := 2) nd rfl (Or.inl rfl) (pe_lst (pa_cons pe_bl (pa_cons (ixl (pe_lst (pa_cons pe_str (pa_cons pe_str pa_nil))) (pe_callTy call_int1 (by rfl) T.int boot_int (pa_cons (ixl (pv 4) pe_int) pa_nil))) pa_nil))))) pss_nil))))))
          (fun D σ H h => by
            obtain ⟨s0, s1, s2, s4, s5, x, C, i, rfl, hx, kd, hi, k⟩ := h
            have kf : ∀ j, j < 10 → ¬ i = j → PySem.W.kitOne K (.ref C) (.ref (c j)) = some false := fun j h1 h2 => by rw [kd.kt j h1, decide_eq_false h2]
            have n1 : ∀ d ∈ [c 5, c 6, c 4, c 8, c 1], PySem.W.kitOne K (.ref C) (.ref d) = some false := fun d hd => by
              simp only [List.mem_cons, List.not_mem_nil, or_false] at hd
              rcases hd with rfl | rfl | rfl | rfl | rfl <;> exact kf _ (by decide) (by lia)
            have n2 : ∀ d ∈ [c 2, c 9, c 3], PySem.W.kitOne K (.ref C) (.ref d) = some false := fun d hd => by
              simp only [List.mem_cons, List.not_mem_nil, or_false] at hd
              rcases hd with rfl | rfl | rfl <;> exact kf _ (by decide) (by lia)
            refine ⟨_, rfl, x, C, _, _, _, rfl, hx, kd.cl, fun _ r => r, kd.kt 7 (by decide), ⟨_, rfl, x, C, _, _, _, rfl, hx, kd.cl, fun _ r => r, kd.kt 0 (by decide), ⟨_, rfl, x, C, _, _, _, rfl, hx, kd.cl, fun _ r => r, kd.kv, sz (by simp), fun l1 hl1 => ?_⟩⟩⟩
            have t1 := same_upd (o := .lst [.bl (decide (i = 7)), .bl (decide (i = 0)), .bl true]) hl1
            have u1 : (upd H l1 (.lst [.bl (decide (i = 7)), .bl (decide (i = 0)), .bl true])) l1 = _ := upd_same
            generalize upd H l1 (.lst [.bl (decide (i = 7)), .bl (decide (i = 0)), .bl true]) = H1 at t1 u1 ⊢
            refine ⟨_, rfl, sz (by simp), fun p1 hp1 => ⟨x, C, p1, [c 5, c 6, c 4, c 8, c 1], rfl, same_upd hp1 _ _ (t1 _ _ hx), upd_same, kd.cl, n1, ?_⟩⟩
            have t2 := t1.trans (same_upd (o := .tup [.ref (c 5), .ref (c 6), .ref (c 4), .ref (c 8), .ref (c 1)]) hp1)
            have u2 := same_upd (o := .tup [.ref (c 5), .ref (c 6), .ref (c 4), .ref (c 8), .ref (c 1)]) hp1 _ _ u1
            generalize upd H1 p1 (.tup [.ref (c 5), .ref (c 6), .ref (c 4), .ref (c 8), .ref (c 1)]) = H2 at t2 u2 ⊢
            refine ⟨_, rfl, false, rfl, iteF ⟨_, rfl, sz (by simp), fun p2 hp2 => ⟨x, C, p2, [c 2, c 9, c 3], rfl, same_upd hp2 _ _ (t2 _ _ hx), upd_same, kd.cl, n2, ?_⟩⟩⟩
            have t3 := t2.trans (same_upd (o := .tup [.ref (c 2), .ref (c 9), .ref (c 3)]) hp2)
            have u3 := same_upd (o := .tup [.ref (c 2), .ref (c 9), .ref (c 3)]) hp2 _ _ u2
            generalize upd H2 p2 (.tup [.ref (c 2), .ref (c 9), .ref (c 3)]) = H3 at t3 u3 ⊢
            refine ⟨sz (by simp), fun l2 hl2 => ?_⟩
            have t4 := t3.trans (same_upd (o := .lst [.bl true, .str "other"]) hl2)
            have u4 := same_upd (o := .lst [.bl true, .str "other"]) hl2 _ _ u3
            generalize upd H3 l2 (.lst [.bl true, .str "other"]) = H4 at t4 u4 ⊢
            rcases hi with rfl | rfl
            · refine ⟨_, rfl, _, _, _, _, rfl, rfl, SqL.of u4, rfl, true, rfl, iteT ⟨_, rfl, false, rfl, iteT ⟨_, rfl, _, _, _, _, rfl, rfl, SqL.of u4, rfl, _, rfl, _, _, _, _, rfl, rfl, SqL.of u4, rfl, rfl, _, rfl, iteT ?_⟩⟩⟩
              refine ⟨sz (by simp), fun l3 hl3 => ?_⟩
              have q3 := same_upd (o := .lst [.str "text", .str "frame"]) hl3
              refine ⟨_, rfl, _, _, _, _, rfl, rfl, SqL.of (q3 _ _ u4), rfl, .inr ⟨_, rfl, _, _, _, _, rfl, rfl, SqL.of upd_same, rfl, sz (by simp), fun l4 hl4 => ?_⟩⟩
              exact k _ _ l4 _ ((t4.trans q3).trans (same_upd hl4)) upd_same
            · refine ⟨_, rfl, _, _, _, _, rfl, rfl, SqL.of u4, rfl, true, rfl, iteT ⟨_, rfl, false, rfl, iteT ⟨_, rfl, _, _, _, _, rfl, rfl, SqL.of u4, rfl, _, rfl, _, _, _, _, rfl, rfl, SqL.of u4, rfl, rfl, _, rfl, iteT ?_⟩⟩⟩
              refine ⟨sz (by simp), fun l3 hl3 => ?_⟩
              have q3 := same_upd (o := .lst [.str "text", .str "frame"]) hl3
              refine ⟨_, rfl, _, _, _, _, rfl, rfl, SqL.of (q3 _ _ u4), rfl, .inr ⟨_, rfl, _, _, _, _, rfl, rfl, SqL.of upd_same, rfl, sz (by simp), fun l4 hl4 => ?_⟩⟩
              exact k _ _ l4 _ ((t4.trans q3).trans (same_upd hl4)) upd_same)))
      (pss_one (ps_ret (pv 2)))), ?_⟩
    refine ⟨sz (by simp), fun l0 hl0 => ?_⟩
    have s0 := same_upd (o := .lst [.bl false, .non]) hl0
    have u0 : (upd H l0 (.lst [.bl false, .non])) l0 = _ := upd_same
    generalize upd H l0 (.lst [.bl false, .non]) = H0 at s0 u0 ⊢
    have ne0 : ∀ {y : Addr}, H0 y = none → y ≠ l0 := fun h z => by rw [z, u0] at h; cases h
    obtain ⟨v', h⟩ := h
    rcases h with ⟨e, h⟩ | ⟨e, h⟩
    · cases e
      refine ⟨_, rfl, rfl, _, rfl, iteT ⟨_, rfl, ?_⟩⟩
      rcases h with ⟨z, b, ps, ws, rfl, asc, hl, ok, e, k⟩ | ⟨nw, k⟩
      · refine .inl ⟨z, b, ps, ws, rfl, asc, hl, ok, e, fun f1 a1 c1 H1 s1 G nf na nc nac => ?_⟩
        refine ⟨_, rfl, l0, _, _, 1, rfl, rfl, s1 _ _ u0, rfl, ⟨_, rfl, k l0 f1 a1 c1 _ (same_upd2 (s0.trans s1) hl0) upd_same ?_⟩⟩
        exact ⟨by rw [upd_ne (ne0 nf)]; exact G.tp, by rw [upd_ne (ne0 na)]; exact G.hp, by rw [upd_ne (ne0 nc)]; exact G.hw, G.ok⟩
      · refine .inr ⟨_, rfl, ?_, fun H1 s1 => ⟨_, rfl, U7, fun x hx => ⟨_, _, _, _, _, x, c 7, 7, rfl, upd_same, k7, .inl rfl, fun k' o l H2 s2 hl => ⟨_, rfl, k l H2 (((s0.trans s1).trans (same_upd hx)).trans s2) hl⟩⟩⟩⟩
        rcases nw with h | ⟨t, h⟩
        · exact .inl h
        · exact .inr ⟨t.keep s0, h⟩
    · cases e
      refine ⟨_, rfl, rfl, _, rfl, iteF ⟨_, rfl, ?_⟩⟩
      rcases h with ⟨f1, a1, c1, b, ps, ws, rfl, G, k⟩ | ⟨d, t, hs, hd, k⟩
      · refine .inl ⟨f1, a1, c1, b, ps, ws, rfl, G.keep s0, fun H1 s1 => ?_⟩
        exact ⟨_, rfl, l0, _, _, 1, rfl, rfl, s1 _ _ u0, rfl, ⟨_, rfl, k l0 _ (same_upd2 (s0.trans s1) hl0) upd_same⟩⟩
      · exact .inr ⟨_, d, rfl, t.keep s0, hs, hd, fun H1 s1 => ⟨_, rfl, U0, fun x hx => ⟨_, _, _, _, _, x, c 0, 0, rfl, upd_same, k0, .inr rfl, fun k' o l H2 s2 hl => ⟨_, rfl, k l H2 (((s0.trans s1).trans (same_upd hx)).trans s2) hl⟩⟩⟩⟩
end
end Hv
namespace Mt
open PySem PyProof.Rows
noncomputable def fg (z : Str) : List Nat := if z.cps.toList.head? = some 45 then z.cps.toList.drop 1 else z.cps.toList
noncomputable def numB (z : Str) : Bool := !(fg z).isEmpty && (fg z).all dgB && !decide (z = Str.ofString "-0") && !(decide (1 < (fg z).length) && (fg z).head? == some 48)
noncomputable def val (l : List Nat) : Nat := l.foldl (fun a d => a * 10 + d) 0
theorem takeWhile_all {p : Nat → Bool} : ∀ {l : List Nat}, (∀ x ∈ l, p x = true) → l.takeWhile p = l
  | [], _ => rfl
  | a :: r, h => by rw [List.takeWhile_cons, if_pos (h a List.mem_cons_self), takeWhile_all fun x hx => h x (List.mem_cons_of_mem _ hx)]
theorem dg_step {c : Nat} (h : dgB c = true) (a : Array Nat) (b : Bool) : NumText.step 10 (a, b) c = some (a.push (c - 48), true) := by
  have h2 : 48 ≤ c ∧ c ≤ 57 := by simpa [dgB] using h
  unfold NumText.step NumText.digit?
  have n95 : (c == 95) = false := by simp; lia
  rw [n95]
  simp only [Bool.false_eq_true, if_false]
  have e : (decide (48 ≤ c) && decide (c ≤ 57)) = true := h
  rw [if_pos e]
  simp only
  rw [if_pos (by lia)]
theorem dg_fold : ∀ {cs : List Nat} {a : Array Nat} {b : Bool}, (∀ c ∈ cs, dgB c = true) → List.foldlM (NumText.step 10) (a, b) cs = some ((cs.map (· - 48)).foldl Array.push a, b || !cs.isEmpty)
  | [], a, b, _ => by simp
  | c :: r, a, b, h => by
    rw [List.foldlM_cons, dg_step (h c List.mem_cons_self)]
    show List.foldlM (NumText.step 10) (a.push (c - 48), true) r = _
    rw [dg_fold fun x hx => h x (List.mem_cons_of_mem _ hx)]
    simp
theorem push_list : ∀ (l : List Nat) (a : Array Nat), (l.foldl Array.push a).toList = a.toList ++ l
  | [], a => by simp
  | x :: r, a => by rw [List.foldl_cons, push_list r]; simp
theorem dg_digits {cs : List Nat} (h : ∀ c ∈ cs, dgB c = true) (hn : cs ≠ []) : ∃ ds : Array Nat, NumText.digits? 10 cs = some ds ∧ ds.toList = cs.map (· - 48) := by
  refine ⟨_, ?_, push_list (cs.map (· - 48)) #[]⟩
  unfold NumText.digits?
  rw [dg_fold h]
  have : cs.isEmpty = false := by cases cs <;> simp at hn ⊢
  simp [this]
theorem nb {c : Nat} (h : dgB c = true) : NumText.blank c = false := by
  have h2 : 48 ≤ c ∧ c ≤ 57 := by simpa [dgB] using h
  simp [NumText.blank]
  lia
theorem core_figs {cs : List Nat} (h : ∀ c ∈ cs, dgB c = true) (hn : cs ≠ []) : (List.dropWhile NumText.blank cs.reverse).reverse = cs := by
  have : List.dropWhile NumText.blank cs.reverse = cs.reverse := by
    cases e : cs.reverse with
    | nil => simp at e; exact absurd e hn
    | cons a r =>
      have ha : a ∈ cs := by rw [← List.mem_reverse, e]; exact List.mem_cons_self
      rw [List.dropWhile_cons, nb (h a ha)]
      rfl
  rw [this, List.reverse_reverse]
theorem int_figs {z : Str} (hl : z.length ≤ 4000) (hn : fg z ≠ []) (hd : ∀ c ∈ fg z, dgB c = true) : PySem.intText? z = some (if z.cps.toList.head? = some 45 then -((val ((fg z).map (· - 48)) : Nat) : Int) else ((val ((fg z).map (· - 48)) : Nat) : Int)) := by
  obtain ⟨ds, e1, e2⟩ := dg_digits hd hn
  have hsz : ds.size ≤ 4300 := by
    rw [← Array.length_toList, e2, List.length_map]
    have : (fg z).length ≤ z.length := by
      rw [len_list]
      unfold fg
      split
      · rw [List.length_drop]; lia
      · lia
    lia
  have ev : Array.foldl (fun acc d => acc * 10 + d) 0 ds = val ((fg z).map (· - 48)) := by
    rw [← Array.foldl_toList, e2]
    rfl
  have dg0 : ∀ {c : Nat}, dgB c = true → 48 ≤ c ∧ c ≤ 57 := fun h => by simpa [dgB] using h
  have hall : ∀ c ∈ z.cps.toList, c = 45 ∨ dgB c = true := fun c hc => by
    by_cases h45 : z.cps.toList.head? = some 45
    · have hf : fg z = z.cps.toList.drop 1 := by unfold fg; rw [if_pos h45]
      cases ez : z.cps.toList with
      | nil => rw [ez] at hc; simp at hc
      | cons a r =>
        rw [ez] at hc h45
        simp at h45
        rcases List.mem_cons.mp hc with rfl | hc
        · exact .inl h45
        · exact .inr (hd c (by rw [hf, ez]; exact hc))
    · exact .inr (hd c (by unfold fg; rw [if_neg h45]; exact hc))
  have hasc : (z.cps.all fun x => decide (x < 128)) = true := by
    rw [← Array.all_toList, List.all_eq_true]
    intro c hc
    rcases hall c hc with h | h
    · exact decide_eq_true (by lia)
    · have := dg0 h; exact decide_eq_true (by lia)
  have hseen : numSeenOf z = z.cps.toList := by
    show List.takeWhile _ (if (z.cps.all fun x => decide (x < 128)) = true then z.cps.toList else _) = _
    rw [if_pos hasc]
    refine takeWhile_all fun c hc => ?_
    rcases hall c hc with h | h
    · simp; lia
    · have := dg0 h; simp; lia
  have htext : numTextOf z = z.cps.toList := by
    show (if (z.cps.all fun x => decide (x < 128)) = true then z.cps.toList else _) = _
    rw [if_pos hasc]
  have hdrop : List.dropWhile NumText.blank z.cps.toList = z.cps.toList := by
    cases ez : z.cps.toList with
    | nil => rfl
    | cons a r =>
      have : NumText.blank a = false := by
        rcases hall a (by rw [ez]; exact List.mem_cons_self) with h | h
        · subst h; rfl
        · exact nb h
      rw [List.dropWhile_cons, this]
      rfl
  have hsign : NumText.sign z.cps.toList = (decide (z.cps.toList.head? = some 45), fg z) := by
    unfold fg
    cases ez : z.cps.toList with
    | nil => rfl
    | cons a r =>
      by_cases h45 : a = 45
      · subst h45; rfl
      · have h43 : a ≠ 43 := by
          rcases hall a (by rw [ez]; exact List.mem_cons_self) with h | h
          · exact absurd h h45
          · have := dg0 h; lia
        have : NumText.sign (a :: r) = (false, a :: r) := by
          unfold NumText.sign
          split
          · rename_i q; injection q with q1 _; exact absurd q1 h45
          · rename_i q; injection q with q1 _; exact absurd q1 h43
          · rfl
        rw [this]
        simp [h45]
  unfold PySem.intText?
  rw [htext, hseen]
  unfold NumText.core
  rw [hdrop, hsign]
  simp only [beq_self_eq_true, if_true, core_figs hd hn, e1, if_pos hsz]
  unfold NumText.worth
  rw [ev]
  by_cases h45 : z.cps.toList.head? = some 45
  · simp [h45]
  · simp [h45]
theorem val_step : ∀ (l : List Nat) (a : Nat), a * 10 ^ l.length ≤ l.foldl (fun a d => a * 10 + d) a
  | [], a => by simp
  | d :: r, a => by
    rw [List.foldl_cons, List.length_cons, Nat.pow_succ]
    refine Nat.le_trans ?_ (val_step r (a * 10 + d))
    rw [show a * (10 ^ r.length * 10) = (a * 10) * 10 ^ r.length by rw [Nat.mul_assoc, Nat.mul_comm (10 ^ r.length)]]
    exact Nat.mul_le_mul_right _ (Nat.le_add_right _ _)
theorem num_text {z : Str} (hl : z.length ≤ 4000) (h : numB z = true) : ∃ n : Int, PySem.intText? z = some n ∧ (-9 ≤ n ∧ n ≤ 16 → z = txt n) := by
  simp only [numB, Bool.and_eq_true, Bool.not_eq_true', decide_eq_false_iff_not, Bool.and_eq_false_iff, List.all_eq_true] at h
  obtain ⟨⟨⟨h1, h2⟩, h3⟩, h4⟩ := h
  have hn : fg z ≠ [] := fun e => by rw [e] at h1; simp at h1
  refine ⟨_, int_figs hl hn h2, fun hr => ?_⟩
  match e : fg z with
  | [] => exact absurd e hn
  | [c] =>
    obtain ⟨k, rfl⟩ := dg_of (h2 c (by rw [e]; simp))
    have ev : val ([48 + (k : Nat)].map (· - 48)) = (k : Nat) := by simp [val]
    rw [ev]
    by_cases h45 : z.cps.toList.head? = some 45
    · rw [if_pos h45]
      have ez : z = ⟨#[45, 48 + (k : Nat)]⟩ := ext_list (by
        unfold fg at e
        rw [if_pos h45] at e
        cases q : z.cps.toList with
        | nil => rw [q] at h45; simp at h45
        | cons a r => rw [q] at h45 e; simp at h45 e; rw [h45, e])
      rcases neg_txt k with hk | hk
      · refine absurd ?_ h3
        rw [ez, hk]
        exact beq_str neg_zero
      · rw [ez]; exact beq_str hk
    · rw [if_neg h45]
      have ez : z = ⟨#[48 + (k : Nat)]⟩ := ext_list (by
        unfold fg at e
        rw [if_neg h45] at e
        rw [e])
      rw [ez]; exact beq_str (one_txt k)
  | c :: d :: r =>
    obtain ⟨k, rfl⟩ := dg_of (h2 c (by rw [e]; simp))
    have hk : (k : Nat) ≠ 0 := fun z0 => by
      rcases h4 with h4 | h4
      · rw [e] at h4; simp at h4
      · rw [e, z0] at h4; simp at h4
    obtain ⟨l, rfl⟩ := dg_of (h2 d (by rw [e]; simp))
    have hv : ((k : Nat) * 10 + l) * 10 ^ r.length ≤ val (((48 + (k : Nat)) :: (48 + (l : Nat)) :: r).map (· - 48)) := by
      have := val_step (r.map (· - 48)) ((k : Nat) * 10 + l)
      rw [List.length_map] at this
      refine Nat.le_trans this (Nat.le_of_eq ?_)
      simp [val]
    rw [e] at hr
    have h10 : 10 ≤ (k : Nat) * 10 + l := by lia
    have hp : 1 ≤ 10 ^ r.length := Nat.one_le_pow _ _ (by decide)
    have hbig : 10 ≤ val (((48 + (k : Nat)) :: (48 + (l : Nat)) :: r).map (· - 48)) := Nat.le_trans (Nat.le_trans h10 (Nat.le_mul_of_pos_right _ hp)) hv
    by_cases h45 : z.cps.toList.head? = some 45
    · rw [if_pos h45] at hr
      lia
    · rw [if_neg h45] at hr ⊢
      cases r with
      | nil =>
        have ev : val ([48 + (k : Nat), 48 + (l : Nat)].map (· - 48)) = (k : Nat) * 10 + l := by simp [val]
        rw [ev]
        have ez : z = ⟨#[48 + (k : Nat), 48 + (l : Nat)]⟩ := ext_list (by
          unfold fg at e
          rw [if_neg h45] at e
          rw [e])
        rcases two_txt k l with q | q
        · exact absurd q hk
        · rw [ez, beq_str q]
          push_cast
          rfl
      | cons x r =>
        have : 10 * 10 ^ (x :: r).length ≤ ((k : Nat) * 10 + l) * 10 ^ (x :: r).length := Nat.mul_le_mul_right _ h10
        have h2 : 10 ≤ 10 ^ (x :: r).length := by
          rw [List.length_cons, Nat.pow_succ]
          have : 1 ≤ 10 ^ r.length := Nat.one_le_pow _ _ (by decide)
          lia
        lia
theorem num_small : ∀ k : Fin 26, numB (txt (((k : Nat) : Int) - 9)) = true := by decide +kernel
end Mt
namespace L2
open PySem PySem.Spec PyProof.Rows
section
variable {X : Cx}
noncomputable def rStrip : V → List V → Hp → VK → Prop := fun x vs H Q => ∃ a b : Str, x = .str a ∧ vs = [.str b] ∧ a.length ≤ sizeLine ∧ Q (.str (Txt.stripChars a b)) H
theorem mt_strip : MtR X "str.strip" rStrip := by
  intro pins s σ H x vs v us Q I rx rv h
  obtain ⟨a, b, rfl, rfl, hz, q⟩ := h
  obtain ⟨t, rfl⟩ := rx
  obtain ⟨u, rfl, ru⟩ := rv.one
  obtain ⟨t', rfl⟩ := ru
  exact SCL.stripChars (fun t' k _ => ⟨.str _, H, I.tok k, ⟨t', rfl⟩, q⟩) hz
end
end L2
namespace Mt
open PySem PyProof.Rows
noncomputable abbrev figS : Str := Str.ofString "0123456789"
theorem fig_has : ∀ k : Fin 128, figS.cps.contains (k : Nat) = dgB k := by decide +kernel
theorem tw_len {p : Nat → Bool} : ∀ l : List Nat, (l.takeWhile p).length ≤ l.length
  | [] => by simp
  | a :: r => by
    rw [List.takeWhile_cons]
    split
    · have := tw_len (p := p) r
      simp
      omega
    · simp
theorem tw_app {p : Nat → Bool} {x : Nat} (hx : p x = false) : ∀ l : List Nat, ((l ++ [x]).takeWhile p).length = l.length ↔ ∀ c ∈ l, p c = true
  | [] => by simp [List.takeWhile_cons, hx]
  | a :: r => by
    rw [List.cons_append, List.takeWhile_cons]
    split
    · rename_i h
      rw [List.length_cons, List.length_cons, Nat.add_right_cancel_iff, tw_app hx r]
      constructor
      · intro q c hc
        rcases List.mem_cons.mp hc with rfl | hc
        · exact h
        · exact q c hc
      · exact fun q c hc => q c (List.mem_cons_of_mem _ hc)
    · rename_i h
      constructor
      · intro q; simp at q
      · intro q; exact absurd (q a List.mem_cons_self) h
theorem strip_x {f : Str} (ha : ∀ c ∈ f.cps.toList, c < 128) : Txt.stripChars (Str.ofString "x" ++ f) figS = Str.ofString "x" ↔ ∀ c ∈ f.cps.toList, dgB c = true := by
  have ex : (Str.ofString "x").cps.toList = [120] := by decide +kernel
  have eL : (Str.ofString "x" ++ f).cps.toList = 120 :: f.cps.toList := by rw [app_list, ex]; rfl
  have g120 : figS.cps.contains 120 = false := by decide +kernel
  have el : (Str.ofString "x" ++ f).length = f.cps.toList.length + 1 := by rw [len_list, eL]; rfl
  have lo : stripLo figS.cps.contains true (Str.ofString "x" ++ f) = 0 := by
    unfold stripLo
    rw [if_pos rfl, eL, List.takeWhile_cons, g120]
    rfl
  have key : (Txt.stripChars (Str.ofString "x" ++ f) figS).cps.toList = (120 :: f.cps.toList).take (f.cps.toList.length + 1 - (List.takeWhile figS.cps.contains (f.cps.toList.reverse ++ [120])).length) := by
    unfold Txt.stripChars
    rw [stripBy_eq, StrLaws.strSub_toList, lo]
    unfold stripHi
    rw [if_pos rfl, eL, el]
    simp
  have hiff := tw_app (p := figS.cps.contains) g120 f.cps.toList.reverse
  have hle := tw_len (p := figS.cps.contains) (f.cps.toList.reverse ++ [120])
  rw [List.length_reverse] at hiff
  constructor
  · intro h c hc
    have e : (Txt.stripChars (Str.ofString "x" ++ f) figS).cps.toList.length = 1 := by rw [h, ex]; rfl
    rw [key, List.length_take, List.length_cons] at e
    have e2 : (List.takeWhile figS.cps.contains (f.cps.toList.reverse ++ [120])).length = f.cps.toList.length := by omega
    have := hiff.mp e2 c (by simpa using hc)
    have h3 := fig_has ⟨c, ha c hc⟩
    rw [← h3]
    exact this
  · intro h
    have e2 : (List.takeWhile figS.cps.contains (f.cps.toList.reverse ++ [120])).length = f.cps.toList.length := hiff.mpr fun c hc => by
      have hc' : c ∈ f.cps.toList := by simpa using hc
      have h3 := fig_has ⟨c, ha c hc'⟩
      show figS.cps.contains c = true
      rw [h3]
      exact h c hc'
    refine ext_list ?_
    rw [key, e2, ex, show f.cps.toList.length + 1 - f.cps.toList.length = 1 by omega]
    rfl
noncomputable def numO (z : Str) : Option Int := if numB z = true then PySem.intText? z else none
theorem slice_one (z : Str) : (Txt.slice z none (some 1)).cps.toList = z.cps.toList.take 1 := by
  by_cases h : 1 ≤ z.length
  · exact slice_to (z := z) (j := 1) h
  · have h0 : z.length = 0 := by omega
    have e := slice_to_beyond (x := z) (j := 1) (by omega)
    rw [e, h0]
    have := slice_to (z := z) (j := 0) (by omega)
    rw [this]
    have : z.cps.toList = [] := List.eq_nil_of_length_eq_zero (by rw [← len_list]; exact h0)
    rw [this]
    rfl
end Mt
namespace L2
open PySem PySem.Spec PyProof.Rows
section
variable {X : Cx} {pins : List (Addr × Obj)} {σ : St} {H : Hp} {s : Shared} {a : Addr} {o : Obj} {kvs : List (Key × V)}
end
end L2
namespace L2
open PySem PySem.Spec PyProof.Rows
end L2
namespace Srt
open PySem PyProof.Rows
structure Ok (a₀ : Array Keyed) (p : Array (Nat × Nat × Nat)) (st : SortSt) : Prop where
  perm : (arrOf st).Perm a₀
  kind : kindOf st = oneType'
  failed : failedOf st = none
  pend : pendingOf st = p
noncomputable abbrev IntK (x : Keyed) : Prop := ∃ n t, x.1 = .int n t
section
variable {prog : Program} {w : World} {A : Around} {E : Value → Shared → Prop} {s : Shared} {a₀ : Array Keyed} {p : Array (Nat × Nat × Nat)} {st : SortSt}
end
end Srt
namespace Srt
open PySem PyProof.Rows
section
variable {prog : Program} {w : World} {A : Around} {E : Value → Shared → Prop} {s : Shared} {st : SortSt}
end
end Srt
namespace Srt
open PySem PyProof.Rows
noncomputable abbrev Outs (a b : Array Keyed) (o : Array Keyed) (i j : Nat) : Prop := o.toList.Perm (a.toList.take i ++ b.toList.take j)
section
variable {a b o : Array Keyed} {i j k : Nat}
end
end Srt
namespace Srt
open PySem PyProof.Rows
noncomputable abbrev Still (a₀ : Array Keyed) (p : Array (Nat × Nat × Nat)) (x : Array Keyed) (st : SortSt) : Prop := Ok a₀ p st ∧ arrOf st = x
section
variable {prog : Program} {w : World} {A : Around} {E : Value → Shared → Prop} {s : Shared} {st : SortSt} {a₀ x₀ : Array Keyed} {p : Array (Nat × Nat × Nat)}
noncomputable abbrev LoOn (a b : Array Keyed) (m : Nat) (o : Array Keyed) (i j : Nat) : Prop := Outs a b o i j ∧ i + 1 < a.size ∧ j < b.size ∧ m ≤ i + j
theorem nbeq {a b : Nat} (h : ¬ a = b) : ¬ (a == b) = true := fun z => h (beq_iff_eq.mp z)
theorem wpS_beq {α : Type} {x y : Nat} {a b : StateT SortSt Sem α} {Q : α → SortSt → Prop} (h1 : x = y → wpS (model prog w) A E s a Q st) (h2 : ¬ x = y → wpS (model prog w) A E s b Q st) : wpS (model prog w) A E s (if (x == y) = true then a else b) Q st := by
  by_cases h : x = y
  · rw [if_pos (beq_iff_eq.mpr h)]; exact h1 h
  · rw [if_neg (nbeq h)]; exact h2 h
theorem wpS_ite {α : Type} {c : Prop} [Decidable c] {a b : StateT SortSt Sem α} {Q : α → SortSt → Prop} (h1 : c → wpS (model prog w) A E s a Q st) (h2 : ¬ c → wpS (model prog w) A E s b Q st) : wpS (model prog w) A E s (if c then a else b) Q st := by
  by_cases h : c
  · rw [if_pos h]; exact h1 h
  · rw [if_neg h]; exact h2 h
theorem via1 {T : Nat → Prop} {G : Prop} (key : ∀ g', T g') (main : (∀ g', T g') → G) : G := main key
theorem via3 {T : Array Keyed → Nat → Nat → Prop} {G : Prop} (P : Array Keyed → Nat → Prop) (key : ∀ o i k, P o i → T o i k) (main : (∀ o i k, P o i → T o i k) → G) : G := main key
end
end Srt
namespace Srt
open PySem PyProof.Rows
noncomputable abbrev Behind (a b : Array Keyed) (o : Array Keyed) (i j : Nat) : Prop := o.toList.Perm (a.toList.drop i ++ b.toList.drop j)
section
variable {a b o : Array Keyed} {i j k : Nat}
end
section
variable {prog : Program} {w : World} {A : Around} {E : Value → Shared → Prop} {s : Shared} {st : SortSt} {a₀ x₀ : Array Keyed} {p : Array (Nat × Nat × Nat)}
noncomputable abbrev HiOn (a b : Array Keyed) (m : Nat) (o : Array Keyed) (i j : Nat) : Prop := Behind a b o i j ∧ (1 ≤ i ∧ i ≤ a.size) ∧ (2 ≤ j ∧ j ≤ b.size) ∧ m + i + j ≤ a.size + b.size
end
end Srt
namespace Srt
open PySem PyProof.Rows
section
variable {prog : Program} {w : World} {A : Around} {E : Value → Shared → Prop} {s : Shared} {st : SortSt} {a₀ x₀ : Array Keyed} {p : Array (Nat × Nat × Nat)}
end
end Srt
namespace Srt
open PySem PyProof.Rows
section
variable {prog : Program} {w : World} {A : Around} {E : Value → Shared → Prop} {s : Shared} {st : SortSt} {a₀ x₀ : Array Keyed} {p : Array (Nat × Nat × Nat)}
end
end Srt
namespace Srt
open PySem PyProof.Rows
section
variable {prog : Program} {w : World} {A : Around} {E : Value → Shared → Prop} {s : Shared}
end
end Srt
namespace Srt
open PySem PyProof.Rows
section
variable {prog : Program} {w : World} {A : Around} {E : Value → Shared → Prop} {s : Shared} {T : String} {r d : Addr} {n : Nat} {P : Nat → Value → Prop} {OK : Heap → Prop}
end
end Srt
namespace L2
open PySem PySem.Spec PyProof.Rows
section
variable {X : Cx}
end
end L2
namespace PySem
open Sem (wp)
end PySem
namespace PySem
open Sem (wp)
namespace F
end F
section
variable {prog : Program} {w : World} {A : Around} {R : Result → Shared → Prop} {I : Addr} {fp wr : List Addr} {G : Array GenState → Array GenState → Prop} {n : Nat} {P : Nat → Value → Prop} {St : Nat → Shared → Prop}
variable {K : Type} [DecidableEq K] {knd : KeyKind prog w K}
end
end PySem
namespace PySem
open Sem (wp)
section
variable {prog : Program} {w : World} {A : Around} {E : Value → Shared → Prop} {s : Shared}
variable {K : Type} [DecidableEq K] {knd : KeyKind prog w K}
end
end PySem
namespace Me
noncomputable def look (f : List (Int × Int)) (k : Int) : Option Int := (f.find? fun q => decide (q.1 = k)).map (·.2)
noncomputable def put (f : List (Int × Int)) (k v : Int) : List (Int × Int) :=
  if (f.any fun p => decide (p.1 = k)) = true then f.map (fun p => if p.1 = k then (p.1, v) else p) else f ++ [(k, v)]
noncomputable def addTo (f : List (Int × Int)) (k n : Int) : List (Int × Int) := put f k ((look f k).getD 0 + n)
noncomputable def figs (p : Int × Int) (w : Int) (n : Nat) (acc : List (Int × Int)) : List (Int × Int) := (List.range n).foldl (fun acc (d : Nat) => addTo acc (p.1 + (d : Int) * w) p.2) acc
noncomputable abbrev keys (f : List (Int × Int)) : List Int := f.map (·.1)
structure Ok (f : List (Int × Int)) (m : Int) : Prop where
  nd : (keys f).Nodup
  bd : ∀ x ∈ keys f, -m ≤ x ∧ x ≤ m
end Me
namespace L2
open PySem PySem.Spec PyProof.Rows
noncomputable abbrev PairsAt (H : Hp) (ts : List Addr) (kvs : List (Key × V)) : Prop := Paired (fun (t : Addr) (p : Key × V) => H t = some (.tup [kV p.1, p.2])) ts kvs
section
variable {X : Cx} {o : Expr} {td : TE}
end
section
variable {X : Cx}
end
end L2
namespace L2
open PySem PySem.Spec PyProof.Rows
section
variable {X : Cx}
theorem call_sumA (hc : X.calm = true) : CallR X (.builtin "sum") (fun xs H Q => ∃ (p : Addr) (ns : List Int), xs = [.ref p] ∧ SqL X.K H p (ns.map V.int) ∧ Q (.int ns.sum) H) := by
  intro pins s σ H xs us Q I r h
  obtain ⟨p, ns, rfl, hq, q⟩ := h
  obtain ⟨u, rfl, rx⟩ := vals1 r
  cases rx
  obtain ⟨its, rv, pl, hz⟩ := I.list hq
  have hl := pl.isList
  have hlt : p < s.heap.objs.size := by obtain ⟨_, e, _⟩ := hl; exact Heap.lt_size e
  have hn : its.toArray.size = ns.length := by rw [List.size_toArray, ← rv.length, List.length_map]
  refine call_sum_walkG (wpAny_pyIter_list hl ?_)
  refine ⟨_, _, _, _, _, _, fun i => (ns[i]?).getD 0, rfl, Walks.list (A := X.A.in1) (I.ok.hd hc) s.heap.objs.size p (Nat.ne_of_lt hlt) its.toArray, ⟨⟨_, Heap.get?_push_size _ rfl, rfl, rfl⟩, hl.push _⟩, fun b hb' => ?_, fun i v hP => ?_, fun h' tk t' hk => ?_⟩
  · show b < (s.heap.push _).objs.size
    rw [Heap.size_push]
    rcases List.mem_cons.mp hb' with rfl | hb'
    · exact Nat.lt_succ_self _
    · have e : b = p := by simpa using hb'
      rw [e]; exact Nat.lt_succ_of_lt hlt
  · have hv : its[i]? = some v := by simpa using hP
    cases eb : ns[i]? with
    | none =>
      have := rv.none_of (i := i) (by rw [List.getElem?_map, eb]; rfl)
      rw [this] at hv; cases hv
    | some b =>
      obtain ⟨u, hu, ru⟩ := rv.get (i := i) (x := .int b) (by rw [List.getElem?_map, eb]; rfl)
      rw [hu] at hv; cases hv
      obtain ⟨t, rfl⟩ := ru
      exact ⟨t, by simp [eb]⟩
  · rw [hn, pre_take ns ns.length (Nat.le_refl _), List.take_length]
    exact ⟨.int _, H, (show Inv X pins σ H { s with heap := h', toks := tk } from seen I hk), ⟨_, rfl⟩, q⟩
end
end L2
namespace Hv
open PySem L2
noncomputable def oV : Option Int → V
  | some n => .int n
  | none => .non
noncomputable def spNum : Sp := fun vs H Q _ => ∃ z : Str, vs = [.str z] ∧ Asc z ∧ z.length ≤ 600 ∧ ∀ H', Same H H' → Q (oV (Mt.numO z)) H'
theorem str_ne {a b : Str} (h : ¬ a = b) : ¬ V.str a = V.str b := fun e => h (by injection e)
section
variable {P : Program} {w : World} {K : PySem.W.Frag} {mg : Str → Option Value} {base : Heap}
theorem scNum : FnScope ["word", "figures"] ["word"] (defScope sLawNumber) := ⟨rfl, rfl, rfl, by decide +kernel, rfl, by decide +kernel, by decide +kernel⟩
theorem ok_num {f : Addr} {fd : FuncData} (F : Fun K "_law_number" "_law_number" sLawNumber f fd) (T : Txt mg) : FnOk P w K mg base CX0 1 f fd ["word"] spNum := by
  refine F.ok scNum (fun vs H Q E h => ?_) (fun cdv A outer s H vs Q E hr h => ?_)
  · obtain ⟨z, rfl, _⟩ := h; rfl
  · obtain ⟨z, rfl, asc, hl, k⟩ := h
    have nd := scNum.nd
    have hz : z.length ≤ sizeLine := Nat.le_trans hl (by decide)
    refine ⟨_, pss_cons (ps_set (i := 1) nd rfl (Or.inl rfl) (pe_slice sl_str (pv 0) (po_some (pe_callTy call_int1 (by rfl) T.int boot_int (pa_cons (pe_cmpR op_eq (pe_slice sl_str (pv 0) po_none (po_some pe_int)) pe_str (nomark _)) pa_nil))) po_none))
      (pss_cons (ps_if (PW.pt (pw_or (pt_cmpR op_eq (pv 1) pe_str (nomark _)) (pw_or (pt_cmpR op_ne (pe_bm PySem.F.plainAttrs_str PySem.F.slot_str_strip PySem.F.type_str_strip mt_strip (pe_op op_add_str pe_str (pv 1)) (pa_cons pe_str pa_nil)) pe_str (nomark _)) (pw_or1 (pt_cmpR op_eq (pv 0) pe_str (nomark _)))))) (pss_one (ps_ret pe_non)) pss_nil)
      (pss_cons (ps_if (PW.pt (pw_and (pt_cmpR op_gt (lenT T.len (by rfl) (pv 1)) pe_int (nomark _)) (pw_and1 (pt_cmpR op_eq (pe_ix ix_str (pv 1) pe_int (by intro _ _; rfl)) pe_str (nomark _))))) (pss_one (ps_ret pe_non)) pss_nil)
      (pss_one (ps_ret (pe_callTy call_int_text (by rfl) T.int boot_int (pa_cons (pv 0) pa_nil)))))), ?_⟩
    have e45 : decide (V.str (Txt.slice z none (some 1)) = V.str (Str.ofString "-")) = decide (z.cps.toList.head? = some 45) := by
      rw [decide_eq_decide]
      have em : (Str.ofString "-").cps.toList = [45] := by decide +kernel
      have es := Mt.slice_one z
      constructor
      · intro e
        injection e with e
        rw [e, em] at es
        cases q : z.cps.toList with
        | nil => rw [q] at es; cases es
        | cons a r => rw [q] at es; simp at es; rw [← es]; rfl
      · intro e
        refine congrArg V.str (Mt.ext_list ?_)
        rw [es, em]
        cases q : z.cps.toList with
        | nil => rw [q] at e; cases e
        | cons a r => rw [q] at e; simp at e; rw [e]; rfl
    refine ⟨_, rfl, _, rfl, _, rfl, z, rfl, hz, rfl, ?_⟩
    rw [e45]
    refine .inr ⟨_, rfl, _, rfl, z, rfl, hz, ?_⟩
    obtain ⟨g, eg, hg⟩ : ∃ g : Str, Txt.slice z (some (if decide (z.cps.toList.head? = some 45) = true then (1 : Int) else 0)) none = g ∧ g.cps.toList = Mt.fg z := by
      refine ⟨_, rfl, ?_⟩
      unfold Mt.fg
      by_cases h : z.cps.toList.head? = some 45
      · rw [decide_eq_true h, if_pos rfl, if_pos h]
        refine Mt.slice_from (z := z) (i := 1) ?_
        rw [Mt.len_list]
        cases q : z.cps.toList with
        | nil => rw [q] at h; cases h
        | cons a r => simp
      · rw [decide_eq_false h, if_neg (by decide), if_neg h]
        exact Mt.slice_from (z := z) (i := 0) (Nat.zero_le _)
    rw [eg]
    have fsub : ∀ c ∈ Mt.fg z, c ∈ z.cps.toList := fun c hc => by
      unfold Mt.fg at hc
      split at hc
      · exact List.mem_of_mem_drop hc
      · exact hc
    have fa : ∀ c ∈ g.cps.toList, c < 128 := fun c hc => asc c (fsub c (by rw [← hg]; exact hc))
    have gl : g.length ≤ 600 := by
      rw [Mt.len_list, hg]
      unfold Mt.fg
      have := Mt.len_list z
      split
      · rw [List.length_drop]; lia
      · lia
    have gz : g.length ≤ sizeLine := Nat.le_trans gl (by decide)
    have none_of : Mt.numB z = false → Q .non H := fun h => by
      have := k H (Same.refl _)
      unfold Mt.numO at this
      rwa [h] at this
    -- the first test
    refine ⟨_, rfl, rfl, _, rfl, ?_⟩
    by_cases c1 : g = Str.ofString ""
    · rw [decide_eq_true (congrArg V.str c1)]
      refine iteT (none_of ?_)
      have : Mt.fg z = [] := by rw [← hg, c1]; decide +kernel
      simp [Mt.numB, this]
    rw [decide_eq_false (str_ne c1)]
    have c1' : Mt.fg z ≠ [] := fun e => c1 (Mt.ext_list (by rw [hg, e]; decide +kernel))
    have x1 : (Str.ofString "x").length = 1 := by decide +kernel
    have xl : (Str.ofString "x").length + g.length ≤ sizeLine := Nat.le_trans (show (Str.ofString "x").length + g.length ≤ 601 by lia) (by decide)
    refine iteF ⟨_, rfl, _, _, rfl, rfl, xl, rfl, _, _, rfl, rfl, ?_, rfl, _, rfl, ?_⟩
    · rw [Mt.len_list, Mt.app_list, List.length_append, ← Mt.len_list, ← Mt.len_list]
      exact xl
    have sx := Mt.strip_x (f := g) fa
    by_cases c2 : ∀ c ∈ g.cps.toList, Mt.dgB c = true
    · rw [show (!decide (V.str (Txt.stripChars (Str.ofString "x" ++ g) (Str.ofString "0123456789")) = V.str (Str.ofString "x"))) = false by rw [decide_eq_true (congrArg V.str (sx.mpr c2))]; rfl]
      refine iteF ⟨_, rfl, rfl, _, rfl, ?_⟩
      by_cases c3 : z = Str.ofString "-0"
      · rw [decide_eq_true (congrArg V.str c3)]
        refine iteT (none_of ?_)
        simp [Mt.numB, c3]
      rw [decide_eq_false (str_ne c3)]
      refine iteF ⟨_, rfl, g, rfl, gz, _, _, rfl, rfl, _, rfl, ?_⟩
      have hd : ∀ c ∈ Mt.fg z, Mt.dgB c = true := by rw [← hg]; exact c2
      have fin : Mt.numB z = true → ∃ (z' : Str) (n : Int), [V.str z] = [V.str z'] ∧ PySem.intText? z' = some n ∧ z'.length ≤ 640 ∧ Q (.int n) H := fun h => by
        obtain ⟨n, hn, _⟩ := Mt.num_text (Nat.le_trans hl (by decide)) h
        refine ⟨z, n, rfl, hn, by lia, ?_⟩
        have := k H (Same.refl _)
        unfold Mt.numO at this
        rwa [if_pos h, hn] at this
      have nb : ∀ t : Bool, (decide (1 < (Mt.fg z).length) && (Mt.fg z).head? == some 48) = t → Mt.numB z = !t := fun t h => by
        unfold Mt.numB
        rw [h, decide_eq_false c3, show (Mt.fg z).all Mt.dgB = true from List.all_eq_true.mpr hd]
        cases q : Mt.fg z with
        | nil => exact absurd q c1'
        | cons a r => simp
      have glen : g.length = (Mt.fg z).length := by rw [Mt.len_list, hg]
      refine ite2 (fun h3 => ?_) (fun h3 => ?_)
      · have h3' : 1 < (Mt.fg z).length := by have := of_decide_eq_true h3; lia
        cases q : g.cps.toList with
        | nil => rw [← hg, q] at h3'; simp at h3'
        | cons a r =>
          refine ⟨_, rfl, g, 0, a, rfl, rfl, gz, by rw [q]; exact atI_nat (xs := a :: r) (j := 0) rfl, rfl, _, rfl, ?_⟩
          have hh : (Mt.fg z).head? = some a := by rw [← hg, q]; rfl
          by_cases ha : a = 48
          · have e : V.str ⟨#[a]⟩ = V.str (Str.ofString "0") := by rw [ha]; rfl
            rw [decide_eq_true e]
            refine iteT (none_of ?_)
            exact nb true (by rw [hh, ha, decide_eq_true h3']; rfl)
          · have ne : ¬ V.str ⟨#[a]⟩ = V.str (Str.ofString "0") := fun e => ha (by
              injection e with e'
              have e2 : (⟨#[a]⟩ : Str).cps = (Str.ofString "0").cps := congrArg Str.cps e'
              have e3 : (#[a] : Array Nat) = #[48] := e2
              simpa using e3)
            rw [decide_eq_false ne]
            exact iteF ⟨_, rfl, fin (nb false (by rw [hh]; simp [ha]))⟩
      · have h3' : ¬ 1 < (Mt.fg z).length := fun z1 => h3 (decide_eq_true (by lia))
        exact iteF ⟨_, rfl, fin (nb false (by rw [decide_eq_false h3']; rfl))⟩
    · rw [show (!decide (V.str (Txt.stripChars (Str.ofString "x" ++ g) (Str.ofString "0123456789")) = V.str (Str.ofString "x"))) = true by rw [decide_eq_false (str_ne fun e => c2 (sx.mp e))]; rfl]
      refine iteT (none_of ?_)
      have : (Mt.fg z).all Mt.dgB = false := by
        rw [← Bool.not_eq_true, List.all_eq_true, ← hg]
        exact c2
      simp [Mt.numB, this]
end
end Hv
namespace Hv
open PySem L2
noncomputable def spWrites : Sp := fun vs H Q _ => ∃ z : Str, vs = [.str z] ∧ Asc z ∧ z.length ≤ 300 ∧ (WrF z → ∀ H', Same H H' → Q (.bl true) H') ∧ (¬ WrF z → ∀ H', Same H H' → Q (.bl false) H')
theorem no_none : ∀ {l : List (Option Int)}, inV .non (l.map oV) = false → ∃ ns : List Int, l = ns.map some
  | [], _ => ⟨[], rfl⟩
  | none :: r, h => by simp [inV, oV, eqV] at h
  | some n :: r, h => by
    have h2 : inV .non (r.map oV) = false := by
      simp only [inV, List.map_cons, List.any_cons, Bool.or_eq_false_iff] at h
      exact h.2
    obtain ⟨ns, rfl⟩ := no_none h2
    exact ⟨n :: ns, rfl⟩
theorem has_none {l : List (Option Int)} (h : inV .non (l.map oV) = true) : none ∈ l := by
  simp only [inV, List.any_eq_true, List.mem_map] at h
  obtain ⟨v, ⟨o, ho, rfl⟩, e⟩ := h
  cases o with
  | none => exact ho
  | some n => simp [oV, eqV] at e
theorem flat_oV (l : List (Option Int)) : (l.map oV).all flatV = true := by
  rw [List.all_eq_true]
  intro v hv
  obtain ⟨o, _, rfl⟩ := List.mem_map.mp hv
  cases o <;> rfl
theorem oV_some (ns : List Int) : (ns.map some).map oV = ns.map V.int := by rw [List.map_map]; rfl
theorem num_txt {n : Int} (h1 : -9 ≤ n) (h2 : n ≤ 16) : Mt.numO (Mt.txt n) = some n := by
  have := Mt.num_small ⟨(n + 9).toNat, by lia⟩
  have e : (((n + 9).toNat : Nat) : Int) - 9 = n := by lia
  simp only [e] at this
  unfold Mt.numO
  rw [if_pos this, Mt.txt_int (by lia)]
theorem num_back {z : Str} {n : Int} (hl : z.length ≤ 4000) (h : Mt.numO z = some n) (h1 : -9 ≤ n) (h2 : n ≤ 16) : z = Mt.txt n := by
  unfold Mt.numO at h
  split at h
  · rename_i hb
    obtain ⟨m, e, q⟩ := Mt.num_text hl hb
    rw [e] at h
    cases h
    exact q ⟨h1, h2⟩
  · cases h
theorem words_txt : ∀ {ws : List Str} {ns : List Int}, ws.map Mt.numO = ns.map some → (∀ z ∈ ws, z.length ≤ 4000) → (∀ n ∈ ns, -9 ≤ n ∧ n ≤ 16) → ws = ns.map Mt.txt
  | [], [], _, _, _ => rfl
  | [], _ :: _, h, _, _ => by cases h
  | _ :: _, [], h, _, _ => by cases h
  | z :: r, n :: m, h, hl, hn => by
    rw [List.map_cons, List.map_cons] at h
    injection h with h1 h2
    have := hn n List.mem_cons_self
    rw [List.map_cons, ← num_back (hl z List.mem_cons_self) h1 this.1 this.2, ← words_txt h2 (fun x hx => hl x (List.mem_cons_of_mem _ hx)) fun x hx => hn x (List.mem_cons_of_mem _ hx)]
theorem nums_txt : ∀ {ns : List Int}, (∀ n ∈ ns, -9 ≤ n ∧ n ≤ 16) → (ns.map Mt.txt).map Mt.numO = ns.map some
  | [], _ => rfl
  | n :: r, h => by
    have := h n List.mem_cons_self
    rw [List.map_cons, List.map_cons, List.map_cons, num_txt this.1 this.2, nums_txt fun x hx => h x (List.mem_cons_of_mem _ hx)]
theorem some_inj {a b : List Int} (h : a.map some = b.map some) : a = b := Mt_map a b h
where
  Mt_map : ∀ a b : List Int, a.map some = b.map some → a = b
    | [], [], _ => rfl
    | [], _ :: _, h => by cases h
    | _ :: _, [], h => by cases h
    | x :: r, y :: s, h => by
      injection h with h1 h2
      injection h1 with h1
      rw [h1, Mt_map r s h2]
section
variable {P : Program} {w : World} {K : PySem.W.Frag} {mg : Str → Option Value} {base : Heap}
theorem scWrites : FnScope ["text", "three", "base", "parts", "weights"] ["text"] (defScope sLawWrites) := ⟨rfl, rfl, rfl, by decide +kernel, rfl, by decide +kernel, by decide +kernel⟩
theorem ok_writes {f : Addr} {fd : FuncData} (F : Fun K "_law_writes" "_law_writes" sLawWrites f fd) (T : Txt mg) (DN : Def P w K mg base 1 "_law_number" ["word"] spNum) : FnOk P w K mg base CX0 2 f fd ["text"] spWrites := by
  refine F.ok scWrites (fun vs H Q E h => ?_) (fun cdv A outer s H vs Q E hr h => ?_)
  · obtain ⟨z, rfl, _⟩ := h; rfl
  · obtain ⟨z, rfl, asc, hz, k1, k2⟩ := h
    have nd := scWrites.nd
    refine ⟨_, (pss_cons (ps_set (i := 1) nd rfl (Or.inl rfl) (pe_bm PySem.F.plainAttrs_str PySem.F.slot_str_split PySem.F.type_str_split mt_split (pv 0) (pa_cons pe_str pa_nil)))
      (pss_cons (ps_if (pt_cmpR op_ne (lenS T.len (by rfl) (pv 1)) pe_int (nomark _)) (pss_one (ps_ret pe_bl)) pss_nil)
      (pss_cons (ps_set (i := 2) nd rfl (Or.inl rfl) (pe_fn DN hr (by rfl) (pa_cons (ixl (pv 1) pe_int) pa_nil)))
      (pss_cons (ps_cmp1 (defScope sLawWrites) ["text", "three", "base", "parts", "weights"] [] [] (i := 3) nd rfl (Or.inl rfl) rfl (pi_list (pe_bm PySem.F.plainAttrs_str PySem.F.slot_str_split PySem.F.type_str_split mt_split (ixl (pv 1) pe_int) (pa_cons pe_str pa_nil))) (fun cl C s H fp => pf_nil) (fun cl C s H fp => (pe_fn DN hr (by rfl) (pa_cons (pv 0) pa_nil))) (by decide +kernel) (by rfl))
      (pss_cons (ps_cmp1 (defScope sLawWrites) ["text", "three", "base", "parts", "weights"] [] [] (i := 4) nd rfl (Or.inl rfl) rfl (pi_list (pe_bm PySem.F.plainAttrs_str PySem.F.slot_str_split PySem.F.type_str_split mt_split (ixl (pv 1) pe_int) (pa_cons pe_str pa_nil))) (fun cl C s H fp => pf_nil) (fun cl C s H fp => (pe_fn DN hr (by rfl) (pa_cons (pv 0) pa_nil))) (by decide +kernel) (by rfl))
      (pss_cons (ps_if (PW.pt (pw_or (pt_cmpR op_isN (pv 2) pe_non (nomark _)) (pw_or (pt_cmpR op_in_seq pe_non (pv 3) (by rfl)) (pw_or1 (pt_cmpR op_in_seq pe_non (pv 4) (by rfl)))))) (pss_one (ps_ret pe_bl)) pss_nil)
      (pss_cons (ps_if (PW.pt (pw_or (pt_not (pt_chain op_le op_le pe_int (pv 2) pe_int)) (pw_or1 (pt_not (pt_chain op_le op_le pe_int (lenS T.len (by rfl) (pv 3)) pe_int))))) (pss_one (ps_ret pe_bl)) pss_nil)
      (pss_cons (ps_if (PW.pt (pw_or (pt_cmpR op_lt (pe_callB (call_minL rfl) (by rfl) T.min boot_min (pa_cons (pv 3) pa_nil)) pe_int (nomark _)) (pw_or (pt_cmpR op_gt (pe_callB (call_maxL rfl) (by rfl) T.max boot_max (pa_cons (pv 3) pa_nil)) pe_int (nomark _)) (pw_or1 (pt_cmpR op_ne (lenS T.len (by rfl) (pv 4)) (pe_callB (call_sumA rfl) (by rfl) T.sum boot_sum (pa_cons (pv 3) pa_nil)) (nomark _)))))) (pss_one (ps_ret pe_bl)) pss_nil)
      (pss_one (ps_ret (pe_and (pe_cmpR op_ge (pe_callB (call_minL rfl) (by rfl) T.min boot_min (pa_cons (pv 4) pa_nil)) (pe_un un_neg pe_int) (nomark _)) (pe_one (pe_cmpR op_le (pe_callB (call_maxL rfl) (by rfl) T.max boot_max (pa_cons (pv 4) pa_nil)) pe_int (nomark _)))))))))))))), ?_⟩
    refine ⟨_, rfl, rfl, _, _, rfl, rfl, rfl, Nat.le_trans hz (by decide), ?_⟩
    rw [Mt.colon]
    have hp0 := fun p hp => Mt.piece_ascii (z := z) (c := 58) (p := p) asc hp
    have hl0 := split_len z 58
    have hj0 := Mt.join_back z 58
    have hF : ∀ b ps ws, FrOk b ps ws → z = Mt.fText b ps ws → Txt.split z (Mt.one 58) = [Mt.txt (b : Int), Mt.pText ps, Mt.wText ws] := fun b ps ws ok e => by
      rw [e]
      exact Mt.f_split ok.b16 (fun p hp => by have := ok.pr p hp; lia) ok.wr
    generalize Txt.split z (Mt.one 58) = pcs at hp0 hl0 hj0 hF ⊢
    refine ⟨Nat.le_trans (show pcs.length ≤ 1000 by lia) (by decide), fun l0 h0 => ?_⟩
    have S0 := same_upd (o := .lst (pcs.map V.str)) h0
    have u0 : upd H l0 (.lst (pcs.map V.str)) l0 = some (.lst (pcs.map V.str)) := upd_same
    show (tSeq _ _) _ _ (upd H l0 (.lst (pcs.map V.str)))
    generalize upd H l0 (.lst (pcs.map V.str)) = H0 at S0 u0 ⊢
    refine ⟨_, rfl, l0, _, rfl, .inl (SqL.of u0), rfl, _, rfl, ?_⟩
    by_cases h3 : ¬ pcs.length = 3
    · rw [show (!decide (V.int (((pcs.map V.str).length : Nat) : Int) = V.int 3)) = true by
        rw [List.length_map]
        simp only [Bool.not_eq_true', decide_eq_false_iff_not]
        intro e
        injection e with e
        lia]
      refine iteT (k2 (fun ⟨b, ps, ws, ok, e⟩ => h3 (by rw [hF b ps ws ok e]; rfl)) H0 S0)
    have h3 : pcs.length = 3 := Decidable.of_not_not h3
    obtain ⟨p0, p1, p2, rfl⟩ : ∃ p0 p1 p2, pcs = [p0, p1, p2] := by
      match pcs, h3 with
      | [a, b, c], _ => exact ⟨a, b, c, rfl⟩
    refine iteF ?_
    have a0 := hp0 p0 (by simp)
    have a1 := hp0 p1 (by simp)
    have a2 := hp0 p2 (by simp)
    refine ⟨_, rfl, _, _, _, _, rfl, rfl, SqL.of u0, rfl, p0, rfl, a0.1, by lia, fun H1 s1 => ?_⟩
    have S1 := S0.trans s1
    have u1 := s1 _ _ u0
    -- the parts
    refine ⟨_, rfl, _, _, _, _, rfl, rfl, SqL.of u1, rfl, ⟨rfl, _, _, rfl, rfl, rfl, Nat.le_trans (show p1.length ≤ 1000 by lia) (by decide), ?_⟩⟩
    rw [Mt.plus]
    have hq1 := fun p hp => Mt.piece_ascii (z := p1) (c := 43) (p := p) a1.1 hp
    have hl1 := split_len p1 43
    have hj1 := Mt.join_back p1 43
    have hF1 : ∀ ps : List Nat, ps ≠ [] → (∀ p ∈ ps, p ≤ 16) → p1 = Mt.pText ps → Txt.split p1 (Mt.one 43) = ps.map fun (p : Nat) => Mt.txt (p : Int) := fun ps n h e => by
      rw [e]
      exact Mt.p_split n h
    generalize Txt.split p1 (Mt.one 43) = w1 at hq1 hl1 hj1 hF1 ⊢
    refine ⟨Nat.le_trans (show w1.length ≤ 1000 by lia) (by decide), fun l1 h1 => ?_⟩
    have S2 := S1.trans (same_upd (o := .lst (w1.map V.str)) h1)
    have u2 := same_upd (o := .lst (w1.map V.str)) h1 _ _ u1
    have v2 : upd H1 l1 (.lst (w1.map V.str)) l1 = some (.lst (w1.map V.str)) := upd_same
    generalize upd H1 l1 (.lst (w1.map V.str)) = H2 at S2 u2 v2 ⊢
    refine ⟨l1, rfl, ⟨_, SqL.of v2⟩, comp_list (K := K) (a := l1) (xs := w1.map V.str) (fun i ys H3 => ys = ((w1.take i).map Mt.numO).map oV ∧ Same H2 H3) ⟨rfl, Same.refl _⟩ (fun i ys H3 _ q => SqL.of (q.2 _ _ v2)) ?_ ?_⟩
    · rintro i x ys H3 hx ⟨rfl, s3⟩
      obtain ⟨y, hy, rfl⟩ := str_at hx
      have hm := hq1 y (List.mem_of_getElem? hy)
      refine ⟨szl (by simp; lia), _, rfl, y, rfl, hm.1, by lia, fun H4 s4 => ⟨?_, s3.trans s4⟩⟩
      rw [List.take_add_one, hy]
      simp
    rintro ys H3 ⟨rfl, s3⟩ a ha
    rw [List.length_map, List.take_length]
    have S3 := (S2.trans s3).trans (same_upd (o := .lst ((w1.map Mt.numO).map oV)) ha)
    have u3 := same_upd (o := .lst ((w1.map Mt.numO).map oV)) ha _ _ (s3 _ _ u2)
    have va : upd H3 a (.lst ((w1.map Mt.numO).map oV)) a = some (.lst ((w1.map Mt.numO).map oV)) := upd_same
    generalize upd H3 a (.lst ((w1.map Mt.numO).map oV)) = H4 at S3 u3 va ⊢
    -- the weights
    refine ⟨_, rfl, _, _, _, _, rfl, rfl, SqL.of u3, rfl, ⟨rfl, _, _, rfl, rfl, rfl, Nat.le_trans (show p2.length ≤ 1000 by lia) (by decide), ?_⟩⟩
    rw [Mt.space]
    have hq2 := fun p hp => Mt.piece_ascii (z := p2) (c := 32) (p := p) a2.1 hp
    have hl2 := split_len p2 32
    have hj2 := Mt.join_back p2 32
    have hn2 := Mt.split_ne p2 (Mt.one 32)
    have hF2 : ∀ ws : List Int, ws ≠ [] → (∀ x ∈ ws, -9 ≤ x ∧ x ≤ 9) → p2 = Mt.wText ws → Txt.split p2 (Mt.one 32) = ws.map Mt.txt := fun ws n h e => by
      rw [e]
      exact Mt.w_split n h
    generalize Txt.split p2 (Mt.one 32) = w2 at hq2 hl2 hj2 hn2 hF2 ⊢
    refine ⟨Nat.le_trans (show w2.length ≤ 1000 by lia) (by decide), fun l2 h2 => ?_⟩
    have S5 := S3.trans (same_upd (o := .lst (w2.map V.str)) h2)
    have va5 := same_upd (o := .lst (w2.map V.str)) h2 _ _ va
    have v5 : upd H4 l2 (.lst (w2.map V.str)) l2 = some (.lst (w2.map V.str)) := upd_same
    generalize upd H4 l2 (.lst (w2.map V.str)) = H5 at S5 va5 v5 ⊢
    refine ⟨l2, rfl, ⟨_, SqL.of v5⟩, comp_list (K := K) (a := l2) (xs := w2.map V.str) (fun i ys H3 => ys = ((w2.take i).map Mt.numO).map oV ∧ Same H5 H3) ⟨rfl, Same.refl _⟩ (fun i ys H3 _ q => SqL.of (q.2 _ _ v5)) ?_ ?_⟩
    · rintro i x ys H3 hx ⟨rfl, s3⟩
      obtain ⟨y, hy, rfl⟩ := str_at hx
      have hm := hq2 y (List.mem_of_getElem? hy)
      refine ⟨szl (by simp; lia), _, rfl, y, rfl, hm.1, by lia, fun H4 s4 => ⟨?_, s3.trans s4⟩⟩
      rw [List.take_add_one, hy]
      simp
    rintro ys H6 ⟨rfl, s6⟩ c hc
    rw [List.length_map, List.take_length]
    have S7 := (S5.trans s6).trans (same_upd (o := .lst ((w2.map Mt.numO).map oV)) hc)
    have va7 := same_upd (o := .lst ((w2.map Mt.numO).map oV)) hc _ _ (s6 _ _ va5)
    have vc : upd H6 c (.lst ((w2.map Mt.numO).map oV)) c = some (.lst ((w2.map Mt.numO).map oV)) := upd_same
    generalize upd H6 c (.lst ((w2.map Mt.numO).map oV)) = H7 at S7 va7 vc ⊢
    -- what a writing would be
    have un : ∀ b ps ws, FrOk b ps ws → z = Mt.fText b ps ws → Mt.numO p0 = some (b : Int) ∧ w1.map Mt.numO = (ps.map fun (p : Nat) => (p : Int)).map some ∧ w2.map Mt.numO = ws.map some := fun b ps ws ok e => by
      have e3 := hF b ps ws ok e
      injection e3 with e30 e3
      injection e3 with e31 e3
      injection e3 with e32 e3
      have l2 := ok.l2
      have hs := ok.sum
      have hw := ok.wl
      have es1 := hF1 ps (fun z => by rw [z] at l2; simp at l2) (fun p hp => by have := ok.pr p hp; lia) e31
      have es2 := hF2 ws (fun z => by rw [z] at hw; simp at hw; lia) ok.wr e32
      refine ⟨by rw [e30]; exact num_txt (by lia) (by have := ok.b16; lia), ?_, ?_⟩
      · rw [es1]
        have : (ps.map fun (p : Nat) => Mt.txt (p : Int)) = (ps.map fun (p : Nat) => (p : Int)).map Mt.txt := by rw [List.map_map]; rfl
        rw [this]
        exact nums_txt fun n hn => by
          obtain ⟨p, hp, rfl⟩ := List.mem_map.mp hn
          have := ok.pr p hp
          lia
      · rw [es2]
        exact nums_txt fun n hn => by have := ok.wr n hn; lia
    refine ⟨_, rfl, rfl, _, rfl, ?_⟩
    cases e0 : Mt.numO p0 with
    | none =>
      refine iteT (k2 (fun ⟨b, ps, ws, ok, e⟩ => ?_) H7 S7)
      have := (un b ps ws ok e).1
      rw [e0] at this
      cases this
    | some n0 =>
    refine iteF ⟨_, rfl, a, _, rfl, .inl (SqL.of va7), rfl, flat_oV _, _, rfl, ?_⟩
    show if inV .non ((w1.map Mt.numO).map oV) = true then _ else _
    cases e1 : inV .non ((w1.map Mt.numO).map oV) with
    | true =>
      refine iteT (k2 (fun ⟨b, ps, ws, ok, e⟩ => ?_) H7 S7)
      have q := has_none e1
      rw [(un b ps ws ok e).2.1] at q
      simp at q
    | false =>
    refine iteF ⟨_, rfl, c, _, rfl, .inl (SqL.of vc), rfl, flat_oV _, _, rfl, ?_⟩
    show if inV .non ((w2.map Mt.numO).map oV) = true then _ else _
    cases e2 : inV .non ((w2.map Mt.numO).map oV) with
    | true =>
      refine iteT (k2 (fun ⟨b, ps, ws, ok, e⟩ => ?_) H7 S7)
      have q := has_none e2
      rw [(un b ps ws ok e).2.2] at q
      simp at q
    | false =>
    obtain ⟨ns, en⟩ := no_none e1
    obtain ⟨ms, em⟩ := no_none e2
    rw [en, oV_some] at va7
    rw [em, oV_some] at vc
    have ln : ns.length = w1.length := by have := congrArg List.length en; simpa using this.symm
    have lm : ms.length = w2.length := by have := congrArg List.length em; simpa using this.symm
    have un2 : ∀ b ps ws, FrOk b ps ws → z = Mt.fText b ps ws → n0 = (b : Int) ∧ ns = (ps.map fun (p : Nat) => (p : Int)) ∧ ms = ws := fun b ps ws ok e => by
      obtain ⟨q0, q1, q2⟩ := un b ps ws ok e
      rw [e0] at q0
      rw [en] at q1
      rw [em] at q2
      exact ⟨by injection q0, some_inj q1, some_inj q2⟩
    refine iteF ?_
    refine ⟨_, rfl, _, _, rfl, rfl, _, rfl, ?_⟩
    by_cases c1 : (2 : Int) ≤ n0
    case neg =>
      rw [decide_eq_false c1]
      refine iteF ⟨false, rfl, iteT (k2 (fun ⟨b, ps, ws, ok, e⟩ => ?_) H7 S7)⟩
      have := (un2 b ps ws ok e).1
      have := ok.b2
      lia
    rw [decide_eq_true c1]
    refine iteT ⟨_, _, rfl, rfl, _, rfl, ?_⟩
    by_cases c2 : n0 ≤ 16
    case neg =>
      rw [decide_eq_false c2]
      refine iteT (k2 (fun ⟨b, ps, ws, ok, e⟩ => ?_) H7 S7)
      have := (un2 b ps ws ok e).1
      have := ok.b16
      lia
    refine iteNS c2 ⟨_, rfl, a, _, rfl, .inl (SqL.of va7), _, _, rfl, rfl, _, rfl, ?_⟩
    rw [List.length_map]
    by_cases c3 : (2 : Int) ≤ (ns.length : Int)
    case neg =>
      rw [decide_eq_false c3]
      refine iteF ⟨false, rfl, iteT (k2 (fun ⟨b, ps, ws, ok, e⟩ => ?_) H7 S7)⟩
      have h := (un2 b ps ws ok e).2.1
      have := ok.l2
      rw [h, List.length_map] at c3
      lia
    rw [decide_eq_true c3]
    refine iteT ⟨_, _, rfl, rfl, _, rfl, ?_⟩
    by_cases c4 : (ns.length : Int) ≤ 4
    case neg =>
      rw [decide_eq_false c4]
      refine iteT (k2 (fun ⟨b, ps, ws, ok, e⟩ => ?_) H7 S7)
      have h := (un2 b ps ws ok e).2.1
      have := ok.l4
      rw [h, List.length_map] at c4
      lia
    have n0' : 0 < ns.length := by lia
    have m0' : 0 < ms.length := by
      rw [lm]
      exact List.length_pos_iff.mpr hn2
    have mn := Ma.minL_spec ns n0'
    have mx := Ma.maxL_spec ns n0'
    have wn := Ma.minL_spec ms m0'
    have wx := Ma.maxL_spec ms m0'
    have pin : ∀ b ps ws, FrOk b ps ws → z = Mt.fText b ps ws → ∀ n ∈ ns, 1 ≤ n ∧ n ≤ 6 := fun b ps ws ok e n hn => by
      rw [(un2 b ps ws ok e).2.1] at hn
      obtain ⟨p, hp, rfl⟩ := List.mem_map.mp hn
      have := ok.pr p hp
      lia
    refine iteNS c4 ⟨_, rfl, a, ns, rfl, SqL.of va7, n0', _, _, rfl, rfl, _, rfl, ?_⟩
    by_cases c5 : Ma.minL ns < 1
    · rw [decide_eq_true c5]
      refine iteT (k2 (fun ⟨b, ps, ws, ok, e⟩ => ?_) H7 S7)
      have := (pin b ps ws ok e _ mn.1).1
      lia
    rw [decide_eq_false c5]
    refine iteF ⟨_, rfl, a, ns, rfl, SqL.of va7, n0', _, _, rfl, rfl, _, rfl, ?_⟩
    by_cases c6 : (6 : Int) < Ma.maxL ns
    · rw [decide_eq_true c6]
      refine iteT (k2 (fun ⟨b, ps, ws, ok, e⟩ => ?_) H7 S7)
      have := (pin b ps ws ok e _ mx.1).2
      lia
    rw [decide_eq_false c6]
    refine iteF ⟨_, rfl, c, _, rfl, .inl (SqL.of vc), _, rfl, a, ns, rfl, SqL.of va7, rfl, _, rfl, ?_⟩
    rw [List.length_map]
    have sum_nat : ∀ l : List Nat, (l.map fun (p : Nat) => (p : Int)).sum = (l.sum : Int) := fun l => by
      induction l with
      | nil => rfl
      | cons p r ih => simp only [List.map_cons, List.sum_cons, ih]; push_cast; rfl
    by_cases c7 : (ms.length : Int) = ns.sum
    case neg =>
      rw [show (!decide (V.int (ms.length : Int) = V.int ns.sum)) = true by
        simp only [Bool.not_eq_true', decide_eq_false_iff_not]
        exact fun e => c7 (by injection e)]
      refine iteT (k2 (fun ⟨b, ps, ws, ok, e⟩ => c7 ?_) H7 S7)
      obtain ⟨_, q1, q2⟩ := un2 b ps ws ok e
      rw [q1, q2, sum_nat, ok.wl]
    rw [show (!decide (V.int (ms.length : Int) = V.int ns.sum)) = false by
      simp only [Bool.not_eq_false', decide_eq_true_eq]
      rw [c7]]
    refine iteF ⟨_, rfl, c, ms, rfl, SqL.of vc, m0', _, rfl, _, _, rfl, rfl, _, rfl, ?_⟩
    by_cases c8 : (-9 : Int) ≤ Ma.minL ms
    case neg =>
      rw [decide_eq_false c8]
      refine iteF (k2 (fun ⟨b, ps, ws, ok, e⟩ => c8 ?_) H7 S7)
      have q := wn.1
      have q2 := (un2 b ps ws ok e).2.2
      exact (ok.wr _ (q2 ▸ q)).1
    rw [decide_eq_true c8]
    refine iteT ⟨_, rfl, c, ms, rfl, SqL.of vc, m0', _, _, rfl, rfl, ?_⟩
    show Q (.bl (decide (Ma.maxL ms ≤ 9))) H7
    by_cases c9 : Ma.maxL ms ≤ 9
    case neg =>
      rw [decide_eq_false c9]
      refine k2 (fun ⟨b, ps, ws, ok, e⟩ => c9 ?_) H7 S7
      have q := wx.1
      have q2 := (un2 b ps ws ok e).2.2
      exact (ok.wr _ (q2 ▸ q)).2
    rw [decide_eq_true c9]
    refine k1 ?_ H7 S7
    have hns : ∀ n ∈ ns, 1 ≤ n ∧ n ≤ 6 := fun n hn => by
      have h1 := mn.2 n hn
      have h2 := mx.2 n hn
      lia
    have hms : ∀ n ∈ ms, -9 ≤ n ∧ n ≤ 9 := fun n hn => by
      have h1 := wn.2 n hn
      have h2 := wx.2 n hn
      lia
    have back : (ns.map Int.toNat).map (fun (p : Nat) => (p : Int)) = ns := by
      rw [List.map_map]
      conv => rhs; rw [← List.map_id ns]
      refine List.map_congr_left fun n hn => ?_
      have := hns n hn
      simp
      lia
    have e0' : p0 = Mt.txt n0 := num_back (by lia) e0 (by lia) c2
    have e1' : w1 = ns.map Mt.txt := words_txt en (fun q hq => by have := (hq1 q hq).2; lia) fun n hn => by have := hns n hn; lia
    have e2' : w2 = ms.map Mt.txt := words_txt em (fun q hq => by have := (hq2 q hq).2; lia) fun n hn => by have := hms n hn; lia
    refine ⟨n0.toNat, ns.map Int.toNat, ms, ⟨by lia, by lia, by rw [List.length_map]; lia, by rw [List.length_map]; lia, fun p hp => ?_, ?_, hms⟩, ?_⟩
    · obtain ⟨n, hn, rfl⟩ := List.mem_map.mp hp
      have := hns n hn
      lia
    · have := sum_nat (ns.map Int.toNat)
      rw [back] at this
      lia
    · rw [← hj0, ← hj1, ← hj2, e0', e1', e2']
      unfold Mt.fText Mt.pText Mt.wText
      have eb : ((n0.toNat : Nat) : Int) = n0 := by lia
      have ep : ((ns.map Int.toNat).map fun (p : Nat) => Mt.txt (p : Int)) = ns.map Mt.txt := by
        conv => rhs; rw [← back]
        rw [List.map_map, List.map_map, List.map_map]
        rfl
      rw [eb, ep]
end
end Hv
namespace Hv
open PySem L2
noncomputable abbrev sP (x : Str) (p : Pos) : Str × Pos := (x, p)
noncomputable def strE (x : Str × Pos) : Expr := .Constant (.str x.1) 0 x.2
noncomputable def tStrs (xs : List Str) : TA := fun _ H Q => Q (xs.map V.str) H
theorem pa_strs {X : Cx} : ∀ l : List (Str × Pos), PA X (l.map strE) (tStrs (l.map (·.1)))
  | [] => pa_nil
  | x :: r => pa_cons pe_str (pa_strs r)
theorem at_strs {xs : List Str} {i : Int} (h0 : 0 ≤ i) (h1 : i < xs.length) : ∃ z ∈ xs, atI (xs.map V.str) i = some (.str z) := by
  obtain ⟨n, rfl⟩ := Int.eq_ofNat_of_zero_le h0
  have hn : n < xs.length := by lia
  refine ⟨xs[n], List.getElem_mem hn, ?_⟩
  exact atI_nat (xs := xs.map V.str) (j := n) (by rw [List.getElem?_map, List.getElem?_eq_getElem hn]; rfl)
noncomputable def goodB (z : Str) : Bool := z.cps.toList.all (fun c => decide (c < 128)) && decide (z.length ≤ 100)
noncomputable def Gd (z : Str) : Prop := Asc z ∧ z.length ≤ 100
theorem gd_of {z : Str} (h : goodB z = true) : Gd z := by
  simp only [goodB, Bool.and_eq_true, decide_eq_true_eq, List.all_eq_true] at h
  exact ⟨fun c hc => h.1 c hc, h.2⟩
theorem gds_of {l : List Str} (h : l.all goodB = true) : ∀ z ∈ l, Gd z := fun z hz => gd_of (List.all_eq_true.mp h z hz)
@[irreducible] noncomputable def dI0 : List (Str × Pos) := [sP "" ⟨124, 12, 124, 14⟩, sP " " ⟨124, 16, 124, 19⟩, sP ":" ⟨124, 21, 124, 24⟩, sP "::" ⟨124, 26, 124, 30⟩, sP "10:1+1:1 1" ⟨124, 32, 124, 44⟩, sP "10:1+1:1" ⟨124, 46, 124, 56⟩]
theorem dI0_eq : dI0 = [sP "" ⟨124, 12, 124, 14⟩, sP " " ⟨124, 16, 124, 19⟩, sP ":" ⟨124, 21, 124, 24⟩, sP "::" ⟨124, 26, 124, 30⟩, sP "10:1+1:1 1" ⟨124, 32, 124, 44⟩, sP "10:1+1:1" ⟨124, 46, 124, 56⟩] := by unfold dI0; rfl
theorem dI0_gd : ∀ z ∈ dI0.map (·.1), Gd z := gds_of (by rw [dI0_eq]; decide +kernel)
theorem dI0_len : (dI0.map (·.1)).length = 6 := by rw [dI0_eq]; rfl
theorem lE0_eq : (.List (dI0.map strE) ⟨124, 11, 124, 57⟩ : Expr) = (.List [(.Constant (.str "") 0 ⟨124, 12, 124, 14⟩), (.Constant (.str " ") 0 ⟨124, 16, 124, 19⟩), (.Constant (.str ":") 0 ⟨124, 21, 124, 24⟩), (.Constant (.str "::") 0 ⟨124, 26, 124, 30⟩), (.Constant (.str "10:1+1:1 1") 0 ⟨124, 32, 124, 44⟩), (.Constant (.str "10:1+1:1") 0 ⟨124, 46, 124, 56⟩)] ⟨124, 11, 124, 57⟩) := by rw [dI0_eq]; rfl
@[irreducible] noncomputable def dI1 : List (Str × Pos) := [sP "10:1+1:1 1 1" ⟨125, 19, 125, 33⟩, sP "10:1+1:1  1" ⟨125, 35, 125, 48⟩, sP "10:1+1: 1 1" ⟨125, 50, 125, 63⟩, sP "10:1+1:1 1 " ⟨125, 65, 125, 78⟩, sP " 10:1+1:1 1" ⟨125, 80, 125, 93⟩]
theorem dI1_eq : dI1 = [sP "10:1+1:1 1 1" ⟨125, 19, 125, 33⟩, sP "10:1+1:1  1" ⟨125, 35, 125, 48⟩, sP "10:1+1: 1 1" ⟨125, 50, 125, 63⟩, sP "10:1+1:1 1 " ⟨125, 65, 125, 78⟩, sP " 10:1+1:1 1" ⟨125, 80, 125, 93⟩] := by unfold dI1; rfl
theorem dI1_gd : ∀ z ∈ dI1.map (·.1), Gd z := gds_of (by rw [dI1_eq]; decide +kernel)
theorem dI1_len : (dI1.map (·.1)).length = 5 := by rw [dI1_eq]; rfl
theorem lE1_eq : (.List (dI1.map strE) ⟨125, 18, 125, 94⟩ : Expr) = (.List [(.Constant (.str "10:1+1:1 1 1") 0 ⟨125, 19, 125, 33⟩), (.Constant (.str "10:1+1:1  1") 0 ⟨125, 35, 125, 48⟩), (.Constant (.str "10:1+1: 1 1") 0 ⟨125, 50, 125, 63⟩), (.Constant (.str "10:1+1:1 1 ") 0 ⟨125, 65, 125, 78⟩), (.Constant (.str " 10:1+1:1 1") 0 ⟨125, 80, 125, 93⟩)] ⟨125, 18, 125, 94⟩) := by rw [dI1_eq]; rfl
@[irreducible] noncomputable def dI2 : List (Str × Pos) := [sP "10 :1+1:1 1" ⟨126, 19, 126, 32⟩, sP "10:1 + 1:1 1" ⟨126, 34, 126, 48⟩, sP "10:1+1 :1 1" ⟨126, 50, 126, 63⟩, sP "1:1+1:1 1" ⟨126, 65, 126, 76⟩, sP "17:1+1:1 1" ⟨126, 78, 126, 90⟩]
theorem dI2_eq : dI2 = [sP "10 :1+1:1 1" ⟨126, 19, 126, 32⟩, sP "10:1 + 1:1 1" ⟨126, 34, 126, 48⟩, sP "10:1+1 :1 1" ⟨126, 50, 126, 63⟩, sP "1:1+1:1 1" ⟨126, 65, 126, 76⟩, sP "17:1+1:1 1" ⟨126, 78, 126, 90⟩] := by unfold dI2; rfl
theorem dI2_gd : ∀ z ∈ dI2.map (·.1), Gd z := gds_of (by rw [dI2_eq]; decide +kernel)
theorem dI2_len : (dI2.map (·.1)).length = 5 := by rw [dI2_eq]; rfl
theorem lE2_eq : (.List (dI2.map strE) ⟨126, 18, 126, 91⟩ : Expr) = (.List [(.Constant (.str "10 :1+1:1 1") 0 ⟨126, 19, 126, 32⟩), (.Constant (.str "10:1 + 1:1 1") 0 ⟨126, 34, 126, 48⟩), (.Constant (.str "10:1+1 :1 1") 0 ⟨126, 50, 126, 63⟩), (.Constant (.str "1:1+1:1 1") 0 ⟨126, 65, 126, 76⟩), (.Constant (.str "17:1+1:1 1") 0 ⟨126, 78, 126, 90⟩)] ⟨126, 18, 126, 91⟩) := by rw [dI2_eq]; rfl
@[irreducible] noncomputable def dI3 : List (Str × Pos) := [sP "16:1+1:1 1" ⟨127, 19, 127, 31⟩, sP "2:1+1:1 1" ⟨127, 33, 127, 44⟩, sP "02:1+1:1 1" ⟨127, 46, 127, 58⟩, sP "-2:1+1:1 1" ⟨127, 60, 127, 72⟩]
theorem dI3_eq : dI3 = [sP "16:1+1:1 1" ⟨127, 19, 127, 31⟩, sP "2:1+1:1 1" ⟨127, 33, 127, 44⟩, sP "02:1+1:1 1" ⟨127, 46, 127, 58⟩, sP "-2:1+1:1 1" ⟨127, 60, 127, 72⟩] := by unfold dI3; rfl
theorem dI3_gd : ∀ z ∈ dI3.map (·.1), Gd z := gds_of (by rw [dI3_eq]; decide +kernel)
theorem dI3_len : (dI3.map (·.1)).length = 4 := by rw [dI3_eq]; rfl
theorem lE3_eq : (.List (dI3.map strE) ⟨127, 18, 127, 73⟩ : Expr) = (.List [(.Constant (.str "16:1+1:1 1") 0 ⟨127, 19, 127, 31⟩), (.Constant (.str "2:1+1:1 1") 0 ⟨127, 33, 127, 44⟩), (.Constant (.str "02:1+1:1 1") 0 ⟨127, 46, 127, 58⟩), (.Constant (.str "-2:1+1:1 1") 0 ⟨127, 60, 127, 72⟩)] ⟨127, 18, 127, 73⟩) := by rw [dI3_eq]; rfl
@[irreducible] noncomputable def dI4 : List (Str × Pos) := [sP "10:2:1 1" ⟨128, 19, 128, 29⟩, sP "10:1+0:1" ⟨128, 31, 128, 41⟩, sP "10:0+1:1" ⟨128, 43, 128, 53⟩, sP "10:1+1+1+1:1 1 1 1" ⟨128, 55, 128, 75⟩]
theorem dI4_eq : dI4 = [sP "10:2:1 1" ⟨128, 19, 128, 29⟩, sP "10:1+0:1" ⟨128, 31, 128, 41⟩, sP "10:0+1:1" ⟨128, 43, 128, 53⟩, sP "10:1+1+1+1:1 1 1 1" ⟨128, 55, 128, 75⟩] := by unfold dI4; rfl
theorem dI4_gd : ∀ z ∈ dI4.map (·.1), Gd z := gds_of (by rw [dI4_eq]; decide +kernel)
theorem dI4_len : (dI4.map (·.1)).length = 4 := by rw [dI4_eq]; rfl
theorem lE4_eq : (.List (dI4.map strE) ⟨128, 18, 128, 76⟩ : Expr) = (.List [(.Constant (.str "10:2:1 1") 0 ⟨128, 19, 128, 29⟩), (.Constant (.str "10:1+0:1") 0 ⟨128, 31, 128, 41⟩), (.Constant (.str "10:0+1:1") 0 ⟨128, 43, 128, 53⟩), (.Constant (.str "10:1+1+1+1:1 1 1 1") 0 ⟨128, 55, 128, 75⟩)] ⟨128, 18, 128, 76⟩) := by rw [dI4_eq]; rfl
@[irreducible] noncomputable def dI5 : List (Str × Pos) := [sP "10:1+1+1+1+1:1 1 1 1 1" ⟨129, 19, 129, 43⟩, sP "10:6+1:1 1 1 1 1 1 1" ⟨129, 45, 129, 67⟩, sP "10:7+1:1 1 1 1 1 1 1 1" ⟨129, 69, 129, 93⟩]
theorem dI5_eq : dI5 = [sP "10:1+1+1+1+1:1 1 1 1 1" ⟨129, 19, 129, 43⟩, sP "10:6+1:1 1 1 1 1 1 1" ⟨129, 45, 129, 67⟩, sP "10:7+1:1 1 1 1 1 1 1 1" ⟨129, 69, 129, 93⟩] := by unfold dI5; rfl
theorem dI5_gd : ∀ z ∈ dI5.map (·.1), Gd z := gds_of (by rw [dI5_eq]; decide +kernel)
theorem dI5_len : (dI5.map (·.1)).length = 3 := by rw [dI5_eq]; rfl
theorem lE5_eq : (.List (dI5.map strE) ⟨129, 18, 129, 94⟩ : Expr) = (.List [(.Constant (.str "10:1+1+1+1+1:1 1 1 1 1") 0 ⟨129, 19, 129, 43⟩), (.Constant (.str "10:6+1:1 1 1 1 1 1 1") 0 ⟨129, 45, 129, 67⟩), (.Constant (.str "10:7+1:1 1 1 1 1 1 1 1") 0 ⟨129, 69, 129, 93⟩)] ⟨129, 18, 129, 94⟩) := by rw [dI5_eq]; rfl
@[irreducible] noncomputable def dI6 : List (Str × Pos) := [sP "10:1+1:9 -9" ⟨130, 19, 130, 32⟩, sP "10:1+1:10 1" ⟨130, 34, 130, 47⟩, sP "10:1+1:-10 1" ⟨130, 49, 130, 63⟩, sP "10:1+1:-0 1" ⟨130, 65, 130, 78⟩, sP "10:1+1:01 1" ⟨130, 80, 130, 93⟩]
theorem dI6_eq : dI6 = [sP "10:1+1:9 -9" ⟨130, 19, 130, 32⟩, sP "10:1+1:10 1" ⟨130, 34, 130, 47⟩, sP "10:1+1:-10 1" ⟨130, 49, 130, 63⟩, sP "10:1+1:-0 1" ⟨130, 65, 130, 78⟩, sP "10:1+1:01 1" ⟨130, 80, 130, 93⟩] := by unfold dI6; rfl
theorem dI6_gd : ∀ z ∈ dI6.map (·.1), Gd z := gds_of (by rw [dI6_eq]; decide +kernel)
theorem dI6_len : (dI6.map (·.1)).length = 5 := by rw [dI6_eq]; rfl
theorem lE6_eq : (.List (dI6.map strE) ⟨130, 18, 130, 94⟩ : Expr) = (.List [(.Constant (.str "10:1+1:9 -9") 0 ⟨130, 19, 130, 32⟩), (.Constant (.str "10:1+1:10 1") 0 ⟨130, 34, 130, 47⟩), (.Constant (.str "10:1+1:-10 1") 0 ⟨130, 49, 130, 63⟩), (.Constant (.str "10:1+1:-0 1") 0 ⟨130, 65, 130, 78⟩), (.Constant (.str "10:1+1:01 1") 0 ⟨130, 80, 130, 93⟩)] ⟨130, 18, 130, 94⟩) := by rw [dI6_eq]; rfl
@[irreducible] noncomputable def dI7 : List (Str × Pos) := [sP "10:01+1:1 1" ⟨131, 19, 131, 32⟩, sP "10:1+1:1,1" ⟨131, 34, 131, 46⟩, sP "10;1+1;1 1" ⟨131, 48, 131, 60⟩, sP "10:1+1" ⟨131, 62, 131, 70⟩]
theorem dI7_eq : dI7 = [sP "10:01+1:1 1" ⟨131, 19, 131, 32⟩, sP "10:1+1:1,1" ⟨131, 34, 131, 46⟩, sP "10;1+1;1 1" ⟨131, 48, 131, 60⟩, sP "10:1+1" ⟨131, 62, 131, 70⟩] := by unfold dI7; rfl
theorem dI7_gd : ∀ z ∈ dI7.map (·.1), Gd z := gds_of (by rw [dI7_eq]; decide +kernel)
theorem dI7_len : (dI7.map (·.1)).length = 4 := by rw [dI7_eq]; rfl
theorem lE7_eq : (.List (dI7.map strE) ⟨131, 18, 131, 71⟩ : Expr) = (.List [(.Constant (.str "10:01+1:1 1") 0 ⟨131, 19, 131, 32⟩), (.Constant (.str "10:1+1:1,1") 0 ⟨131, 34, 131, 46⟩), (.Constant (.str "10;1+1;1 1") 0 ⟨131, 48, 131, 60⟩), (.Constant (.str "10:1+1") 0 ⟨131, 62, 131, 70⟩)] ⟨131, 18, 131, 71⟩) := by rw [dI7_eq]; rfl
@[irreducible] noncomputable def dI8 : List (Str × Pos) := [sP "10:1+1:1 1:" ⟨132, 19, 132, 32⟩, sP "10:1+1:+1 1" ⟨132, 34, 132, 47⟩, sP "10:1+-1:1 1" ⟨132, 49, 132, 62⟩, sP "10:1++1:1 1" ⟨132, 64, 132, 77⟩, sP "10:+1+1:1 1" ⟨132, 79, 132, 92⟩]
theorem dI8_eq : dI8 = [sP "10:1+1:1 1:" ⟨132, 19, 132, 32⟩, sP "10:1+1:+1 1" ⟨132, 34, 132, 47⟩, sP "10:1+-1:1 1" ⟨132, 49, 132, 62⟩, sP "10:1++1:1 1" ⟨132, 64, 132, 77⟩, sP "10:+1+1:1 1" ⟨132, 79, 132, 92⟩] := by unfold dI8; rfl
theorem dI8_gd : ∀ z ∈ dI8.map (·.1), Gd z := gds_of (by rw [dI8_eq]; decide +kernel)
theorem dI8_len : (dI8.map (·.1)).length = 5 := by rw [dI8_eq]; rfl
theorem lE8_eq : (.List (dI8.map strE) ⟨132, 18, 132, 93⟩ : Expr) = (.List [(.Constant (.str "10:1+1:1 1:") 0 ⟨132, 19, 132, 32⟩), (.Constant (.str "10:1+1:+1 1") 0 ⟨132, 34, 132, 47⟩), (.Constant (.str "10:1+-1:1 1") 0 ⟨132, 49, 132, 62⟩), (.Constant (.str "10:1++1:1 1") 0 ⟨132, 64, 132, 77⟩), (.Constant (.str "10:+1+1:1 1") 0 ⟨132, 79, 132, 92⟩)] ⟨132, 18, 132, 93⟩) := by rw [dI8_eq]; rfl
@[irreducible] noncomputable def dI9 : List (Str × Pos) := [sP "10:1+1+:1 1" ⟨133, 19, 133, 32⟩, sP "10:1+1:1 x" ⟨133, 34, 133, 46⟩, sP "x:1+1:1 1" ⟨133, 48, 133, 59⟩, sP "10:x+1:1 1" ⟨133, 61, 133, 73⟩]
theorem dI9_eq : dI9 = [sP "10:1+1+:1 1" ⟨133, 19, 133, 32⟩, sP "10:1+1:1 x" ⟨133, 34, 133, 46⟩, sP "x:1+1:1 1" ⟨133, 48, 133, 59⟩, sP "10:x+1:1 1" ⟨133, 61, 133, 73⟩] := by unfold dI9; rfl
theorem dI9_gd : ∀ z ∈ dI9.map (·.1), Gd z := gds_of (by rw [dI9_eq]; decide +kernel)
theorem dI9_len : (dI9.map (·.1)).length = 4 := by rw [dI9_eq]; rfl
theorem lE9_eq : (.List (dI9.map strE) ⟨133, 18, 133, 74⟩ : Expr) = (.List [(.Constant (.str "10:1+1+:1 1") 0 ⟨133, 19, 133, 32⟩), (.Constant (.str "10:1+1:1 x") 0 ⟨133, 34, 133, 46⟩), (.Constant (.str "x:1+1:1 1") 0 ⟨133, 48, 133, 59⟩), (.Constant (.str "10:x+1:1 1") 0 ⟨133, 61, 133, 73⟩)] ⟨133, 18, 133, 74⟩) := by rw [dI9_eq]; rfl
@[irreducible] noncomputable def dI10 : List (Str × Pos) := [sP "10:1+1:1 1\n" ⟨134, 19, 134, 33⟩, sP "10:1+1:1\t1" ⟨134, 35, 134, 48⟩, sP "10.0:1+1:1 1" ⟨134, 50, 134, 64⟩, sP "1_0:1+1:1 1" ⟨134, 66, 134, 79⟩, sP "10:1+1:--1 1" ⟨134, 81, 134, 95⟩]
theorem dI10_eq : dI10 = [sP "10:1+1:1 1\n" ⟨134, 19, 134, 33⟩, sP "10:1+1:1\t1" ⟨134, 35, 134, 48⟩, sP "10.0:1+1:1 1" ⟨134, 50, 134, 64⟩, sP "1_0:1+1:1 1" ⟨134, 66, 134, 79⟩, sP "10:1+1:--1 1" ⟨134, 81, 134, 95⟩] := by unfold dI10; rfl
theorem dI10_gd : ∀ z ∈ dI10.map (·.1), Gd z := gds_of (by rw [dI10_eq]; decide +kernel)
theorem dI10_len : (dI10.map (·.1)).length = 5 := by rw [dI10_eq]; rfl
theorem lE10_eq : (.List (dI10.map strE) ⟨134, 18, 134, 96⟩ : Expr) = (.List [(.Constant (.str "10:1+1:1 1\n") 0 ⟨134, 19, 134, 33⟩), (.Constant (.str "10:1+1:1\t1") 0 ⟨134, 35, 134, 48⟩), (.Constant (.str "10.0:1+1:1 1") 0 ⟨134, 50, 134, 64⟩), (.Constant (.str "1_0:1+1:1 1") 0 ⟨134, 66, 134, 79⟩), (.Constant (.str "10:1+1:--1 1") 0 ⟨134, 81, 134, 95⟩)] ⟨134, 18, 134, 96⟩) := by rw [dI10_eq]; rfl
@[irreducible] noncomputable def dI11 : List (Str × Pos) := [sP "10:1+1:- 1" ⟨135, 19, 135, 31⟩, sP "10:1+1:1 -" ⟨135, 33, 135, 45⟩, sP "100:1+1:1 1" ⟨135, 47, 135, 60⟩, sP "10:1+1:0 0" ⟨135, 62, 135, 74⟩]
theorem dI11_eq : dI11 = [sP "10:1+1:- 1" ⟨135, 19, 135, 31⟩, sP "10:1+1:1 -" ⟨135, 33, 135, 45⟩, sP "100:1+1:1 1" ⟨135, 47, 135, 60⟩, sP "10:1+1:0 0" ⟨135, 62, 135, 74⟩] := by unfold dI11; rfl
theorem dI11_gd : ∀ z ∈ dI11.map (·.1), Gd z := gds_of (by rw [dI11_eq]; decide +kernel)
theorem dI11_len : (dI11.map (·.1)).length = 4 := by rw [dI11_eq]; rfl
theorem lE11_eq : (.List (dI11.map strE) ⟨135, 18, 135, 75⟩ : Expr) = (.List [(.Constant (.str "10:1+1:- 1") 0 ⟨135, 19, 135, 31⟩), (.Constant (.str "10:1+1:1 -") 0 ⟨135, 33, 135, 45⟩), (.Constant (.str "100:1+1:1 1") 0 ⟨135, 47, 135, 60⟩), (.Constant (.str "10:1+1:0 0") 0 ⟨135, 62, 135, 74⟩)] ⟨135, 18, 135, 75⟩) := by rw [dI11_eq]; rfl
theorem odd_body : defBody sLawOdd = .Assign [(.Name "some" ⟨124, 4, 124, 8⟩)] (.List (dI0.map strE) ⟨124, 11, 124, 57⟩) ⟨124, 4, 124, 57⟩ :: .Assign [(.Name "some" ⟨125, 4, 125, 8⟩)] (.BinOp (.Name "some" ⟨125, 11, 125, 15⟩) .Add (.List (dI1.map strE) ⟨125, 18, 125, 94⟩) ⟨125, 11, 125, 94⟩) ⟨125, 4, 125, 94⟩ :: .Assign [(.Name "some" ⟨126, 4, 126, 8⟩)] (.BinOp (.Name "some" ⟨126, 11, 126, 15⟩) .Add (.List (dI2.map strE) ⟨126, 18, 126, 91⟩) ⟨126, 11, 126, 91⟩) ⟨126, 4, 126, 91⟩ :: .Assign [(.Name "some" ⟨127, 4, 127, 8⟩)] (.BinOp (.Name "some" ⟨127, 11, 127, 15⟩) .Add (.List (dI3.map strE) ⟨127, 18, 127, 73⟩) ⟨127, 11, 127, 73⟩) ⟨127, 4, 127, 73⟩ :: .Assign [(.Name "some" ⟨128, 4, 128, 8⟩)] (.BinOp (.Name "some" ⟨128, 11, 128, 15⟩) .Add (.List (dI4.map strE) ⟨128, 18, 128, 76⟩) ⟨128, 11, 128, 76⟩) ⟨128, 4, 128, 76⟩ :: .Assign [(.Name "some" ⟨129, 4, 129, 8⟩)] (.BinOp (.Name "some" ⟨129, 11, 129, 15⟩) .Add (.List (dI5.map strE) ⟨129, 18, 129, 94⟩) ⟨129, 11, 129, 94⟩) ⟨129, 4, 129, 94⟩ :: .Assign [(.Name "some" ⟨130, 4, 130, 8⟩)] (.BinOp (.Name "some" ⟨130, 11, 130, 15⟩) .Add (.List (dI6.map strE) ⟨130, 18, 130, 94⟩) ⟨130, 11, 130, 94⟩) ⟨130, 4, 130, 94⟩ :: .Assign [(.Name "some" ⟨131, 4, 131, 8⟩)] (.BinOp (.Name "some" ⟨131, 11, 131, 15⟩) .Add (.List (dI7.map strE) ⟨131, 18, 131, 71⟩) ⟨131, 11, 131, 71⟩) ⟨131, 4, 131, 71⟩ :: .Assign [(.Name "some" ⟨132, 4, 132, 8⟩)] (.BinOp (.Name "some" ⟨132, 11, 132, 15⟩) .Add (.List (dI8.map strE) ⟨132, 18, 132, 93⟩) ⟨132, 11, 132, 93⟩) ⟨132, 4, 132, 93⟩ :: .Assign [(.Name "some" ⟨133, 4, 133, 8⟩)] (.BinOp (.Name "some" ⟨133, 11, 133, 15⟩) .Add (.List (dI9.map strE) ⟨133, 18, 133, 74⟩) ⟨133, 11, 133, 74⟩) ⟨133, 4, 133, 74⟩ :: .Assign [(.Name "some" ⟨134, 4, 134, 8⟩)] (.BinOp (.Name "some" ⟨134, 11, 134, 15⟩) .Add (.List (dI10.map strE) ⟨134, 18, 134, 96⟩) ⟨134, 11, 134, 96⟩) ⟨134, 4, 134, 96⟩ :: .Assign [(.Name "some" ⟨135, 4, 135, 8⟩)] (.BinOp (.Name "some" ⟨135, 11, 135, 15⟩) .Add (.List (dI11.map strE) ⟨135, 18, 135, 75⟩) ⟨135, 11, 135, 75⟩) ⟨135, 4, 135, 75⟩ :: (defBody sLawOdd).drop 12 := by rw [lE0_eq, lE1_eq, lE2_eq, lE3_eq, lE4_eq, lE5_eq, lE6_eq, lE7_eq, lE8_eq, lE9_eq, lE10_eq, lE11_eq]; rfl
noncomputable def spOddT : Sp := fun vs H Q _ => ∃ cell : Int, vs = [.int cell] ∧ 0 ≤ cell ∧ ∀ z H', Gd z → Same H H' → Q (.str z) H'
section
variable {P : Program} {w : World} {K : PySem.W.Frag} {mg : Str → Option Value} {base : Heap}
theorem scLawOdd : FnScope ["cell", "some"] ["cell"] (defScope sLawOdd) := ⟨rfl, rfl, rfl, by decide +kernel, rfl, by decide +kernel, by decide +kernel⟩
theorem ok_oddt {f : Addr} {fd : FuncData} (F : Fun K "_law_odd" "_law_odd" sLawOdd f fd) (T : Txt mg) : FnOk P w K mg base CX0 1 f fd ["cell"] spOddT := by
  refine F.ok scLawOdd (fun vs H Q E h => ?_) (fun cdv A outer s H vs Q E hr h => ?_)
  · obtain ⟨cell, rfl, _⟩ := h; rfl
  · obtain ⟨cell, rfl, h0, k⟩ := h
    have nd := scLawOdd.nd
    rw [odd_body]
    refine ⟨_, (pss_cons (ps_set (i := 1) nd rfl (Or.inl rfl) (pe_lst (pa_strs dI0)))
      (pss_cons (ps_set (i := 1) nd rfl (Or.inl rfl) (pe_op op_cat (pv 1) (pe_lst (pa_strs dI1))))
      (pss_cons (ps_set (i := 1) nd rfl (Or.inl rfl) (pe_op op_cat (pv 1) (pe_lst (pa_strs dI2))))
      (pss_cons (ps_set (i := 1) nd rfl (Or.inl rfl) (pe_op op_cat (pv 1) (pe_lst (pa_strs dI3))))
      (pss_cons (ps_set (i := 1) nd rfl (Or.inl rfl) (pe_op op_cat (pv 1) (pe_lst (pa_strs dI4))))
      (pss_cons (ps_set (i := 1) nd rfl (Or.inl rfl) (pe_op op_cat (pv 1) (pe_lst (pa_strs dI5))))
      (pss_cons (ps_set (i := 1) nd rfl (Or.inl rfl) (pe_op op_cat (pv 1) (pe_lst (pa_strs dI6))))
      (pss_cons (ps_set (i := 1) nd rfl (Or.inl rfl) (pe_op op_cat (pv 1) (pe_lst (pa_strs dI7))))
      (pss_cons (ps_set (i := 1) nd rfl (Or.inl rfl) (pe_op op_cat (pv 1) (pe_lst (pa_strs dI8))))
      (pss_cons (ps_set (i := 1) nd rfl (Or.inl rfl) (pe_op op_cat (pv 1) (pe_lst (pa_strs dI9))))
      (pss_cons (ps_set (i := 1) nd rfl (Or.inl rfl) (pe_op op_cat (pv 1) (pe_lst (pa_strs dI10))))
      (pss_cons (ps_set (i := 1) nd rfl (Or.inl rfl) (pe_op op_cat (pv 1) (pe_lst (pa_strs dI11))))
      (pss_one (ps_ret (ixl (pv 1) (pe_op op_mod (pv 0) (lenS T.len (by rfl) (pv 1)))))))))))))))))), ?_⟩
    refine ⟨by rw [List.length_map, dI0_len]; exact sz (by decide), fun l0 h0' => ?_⟩
    have A0 : ∃ xs : List Str, (upd H l0 (.lst ((dI0.map (·.1)).map V.str))) l0 = some (.lst (xs.map V.str)) ∧ xs.length = 6 ∧ ∀ z ∈ xs, Gd z := ⟨_, upd_same, dI0_len, dI0_gd⟩
    have S0 := same_upd (o := .lst ((dI0.map (·.1)).map V.str)) h0'
    generalize upd H l0 (.lst ((dI0.map (·.1)).map V.str)) = H0 at A0 S0 ⊢
    obtain ⟨x0, u0, n0, g0⟩ := A0
    refine ⟨_, rfl, by rw [List.length_map, dI1_len]; exact sz (by decide), fun m1 hm1 => ?_⟩
    have t1 := same_upd (o := .lst ((dI1.map (·.1)).map V.str)) hm1
    have v1 : (upd H0 m1 (.lst ((dI1.map (·.1)).map V.str))) m1 = _ := upd_same
    generalize upd H0 m1 (.lst ((dI1.map (·.1)).map V.str)) = G1 at t1 v1 ⊢
    refine ⟨l0, m1, _, _, rfl, rfl, t1 _ _ u0, v1, by rw [List.length_map, List.length_map, n0, dI1_len]; exact sz (by decide), fun l1 hl1 => ?_⟩
    have A1 : ∃ xs : List Str, (upd G1 l1 (.lst (x0.map V.str ++ (dI1.map (·.1)).map V.str))) l1 = some (.lst (xs.map V.str)) ∧ xs.length = 11 ∧ ∀ z ∈ xs, Gd z := ⟨x0 ++ dI1.map (·.1), by rw [List.map_append]; exact upd_same, by rw [List.length_append, n0, dI1_len], fun z hz => (List.mem_append.mp hz).elim (g0 z) (dI1_gd z)⟩
    have S1 := (S0.trans t1).trans (same_upd (o := .lst (x0.map V.str ++ (dI1.map (·.1)).map V.str)) hl1)
    generalize upd G1 l1 (.lst (x0.map V.str ++ (dI1.map (·.1)).map V.str)) = H1 at A1 S1 ⊢
    obtain ⟨x1, u1, n1, g1⟩ := A1
    refine ⟨_, rfl, by rw [List.length_map, dI2_len]; exact sz (by decide), fun m2 hm2 => ?_⟩
    have t2 := same_upd (o := .lst ((dI2.map (·.1)).map V.str)) hm2
    have v2 : (upd H1 m2 (.lst ((dI2.map (·.1)).map V.str))) m2 = _ := upd_same
    generalize upd H1 m2 (.lst ((dI2.map (·.1)).map V.str)) = G2 at t2 v2 ⊢
    refine ⟨l1, m2, _, _, rfl, rfl, t2 _ _ u1, v2, by rw [List.length_map, List.length_map, n1, dI2_len]; exact sz (by decide), fun l2 hl2 => ?_⟩
    have A2 : ∃ xs : List Str, (upd G2 l2 (.lst (x1.map V.str ++ (dI2.map (·.1)).map V.str))) l2 = some (.lst (xs.map V.str)) ∧ xs.length = 16 ∧ ∀ z ∈ xs, Gd z := ⟨x1 ++ dI2.map (·.1), by rw [List.map_append]; exact upd_same, by rw [List.length_append, n1, dI2_len], fun z hz => (List.mem_append.mp hz).elim (g1 z) (dI2_gd z)⟩
    have S2 := (S1.trans t2).trans (same_upd (o := .lst (x1.map V.str ++ (dI2.map (·.1)).map V.str)) hl2)
    generalize upd G2 l2 (.lst (x1.map V.str ++ (dI2.map (·.1)).map V.str)) = H2 at A2 S2 ⊢
    obtain ⟨x2, u2, n2, g2⟩ := A2
    refine ⟨_, rfl, by rw [List.length_map, dI3_len]; exact sz (by decide), fun m3 hm3 => ?_⟩
    have t3 := same_upd (o := .lst ((dI3.map (·.1)).map V.str)) hm3
    have v3 : (upd H2 m3 (.lst ((dI3.map (·.1)).map V.str))) m3 = _ := upd_same
    generalize upd H2 m3 (.lst ((dI3.map (·.1)).map V.str)) = G3 at t3 v3 ⊢
    refine ⟨l2, m3, _, _, rfl, rfl, t3 _ _ u2, v3, by rw [List.length_map, List.length_map, n2, dI3_len]; exact sz (by decide), fun l3 hl3 => ?_⟩
    have A3 : ∃ xs : List Str, (upd G3 l3 (.lst (x2.map V.str ++ (dI3.map (·.1)).map V.str))) l3 = some (.lst (xs.map V.str)) ∧ xs.length = 20 ∧ ∀ z ∈ xs, Gd z := ⟨x2 ++ dI3.map (·.1), by rw [List.map_append]; exact upd_same, by rw [List.length_append, n2, dI3_len], fun z hz => (List.mem_append.mp hz).elim (g2 z) (dI3_gd z)⟩
    have S3 := (S2.trans t3).trans (same_upd (o := .lst (x2.map V.str ++ (dI3.map (·.1)).map V.str)) hl3)
    generalize upd G3 l3 (.lst (x2.map V.str ++ (dI3.map (·.1)).map V.str)) = H3 at A3 S3 ⊢
    obtain ⟨x3, u3, n3, g3⟩ := A3
    refine ⟨_, rfl, by rw [List.length_map, dI4_len]; exact sz (by decide), fun m4 hm4 => ?_⟩
    have t4 := same_upd (o := .lst ((dI4.map (·.1)).map V.str)) hm4
    have v4 : (upd H3 m4 (.lst ((dI4.map (·.1)).map V.str))) m4 = _ := upd_same
    generalize upd H3 m4 (.lst ((dI4.map (·.1)).map V.str)) = G4 at t4 v4 ⊢
    refine ⟨l3, m4, _, _, rfl, rfl, t4 _ _ u3, v4, by rw [List.length_map, List.length_map, n3, dI4_len]; exact sz (by decide), fun l4 hl4 => ?_⟩
    have A4 : ∃ xs : List Str, (upd G4 l4 (.lst (x3.map V.str ++ (dI4.map (·.1)).map V.str))) l4 = some (.lst (xs.map V.str)) ∧ xs.length = 24 ∧ ∀ z ∈ xs, Gd z := ⟨x3 ++ dI4.map (·.1), by rw [List.map_append]; exact upd_same, by rw [List.length_append, n3, dI4_len], fun z hz => (List.mem_append.mp hz).elim (g3 z) (dI4_gd z)⟩
    have S4 := (S3.trans t4).trans (same_upd (o := .lst (x3.map V.str ++ (dI4.map (·.1)).map V.str)) hl4)
    generalize upd G4 l4 (.lst (x3.map V.str ++ (dI4.map (·.1)).map V.str)) = H4 at A4 S4 ⊢
    obtain ⟨x4, u4, n4, g4⟩ := A4
    refine ⟨_, rfl, by rw [List.length_map, dI5_len]; exact sz (by decide), fun m5 hm5 => ?_⟩
    have t5 := same_upd (o := .lst ((dI5.map (·.1)).map V.str)) hm5
    have v5 : (upd H4 m5 (.lst ((dI5.map (·.1)).map V.str))) m5 = _ := upd_same
    generalize upd H4 m5 (.lst ((dI5.map (·.1)).map V.str)) = G5 at t5 v5 ⊢
    refine ⟨l4, m5, _, _, rfl, rfl, t5 _ _ u4, v5, by rw [List.length_map, List.length_map, n4, dI5_len]; exact sz (by decide), fun l5 hl5 => ?_⟩
    have A5 : ∃ xs : List Str, (upd G5 l5 (.lst (x4.map V.str ++ (dI5.map (·.1)).map V.str))) l5 = some (.lst (xs.map V.str)) ∧ xs.length = 27 ∧ ∀ z ∈ xs, Gd z := ⟨x4 ++ dI5.map (·.1), by rw [List.map_append]; exact upd_same, by rw [List.length_append, n4, dI5_len], fun z hz => (List.mem_append.mp hz).elim (g4 z) (dI5_gd z)⟩
    have S5 := (S4.trans t5).trans (same_upd (o := .lst (x4.map V.str ++ (dI5.map (·.1)).map V.str)) hl5)
    generalize upd G5 l5 (.lst (x4.map V.str ++ (dI5.map (·.1)).map V.str)) = H5 at A5 S5 ⊢
    obtain ⟨x5, u5, n5, g5⟩ := A5
    refine ⟨_, rfl, by rw [List.length_map, dI6_len]; exact sz (by decide), fun m6 hm6 => ?_⟩
    have t6 := same_upd (o := .lst ((dI6.map (·.1)).map V.str)) hm6
    have v6 : (upd H5 m6 (.lst ((dI6.map (·.1)).map V.str))) m6 = _ := upd_same
    generalize upd H5 m6 (.lst ((dI6.map (·.1)).map V.str)) = G6 at t6 v6 ⊢
    refine ⟨l5, m6, _, _, rfl, rfl, t6 _ _ u5, v6, by rw [List.length_map, List.length_map, n5, dI6_len]; exact sz (by decide), fun l6 hl6 => ?_⟩
    have A6 : ∃ xs : List Str, (upd G6 l6 (.lst (x5.map V.str ++ (dI6.map (·.1)).map V.str))) l6 = some (.lst (xs.map V.str)) ∧ xs.length = 32 ∧ ∀ z ∈ xs, Gd z := ⟨x5 ++ dI6.map (·.1), by rw [List.map_append]; exact upd_same, by rw [List.length_append, n5, dI6_len], fun z hz => (List.mem_append.mp hz).elim (g5 z) (dI6_gd z)⟩
    have S6 := (S5.trans t6).trans (same_upd (o := .lst (x5.map V.str ++ (dI6.map (·.1)).map V.str)) hl6)
    generalize upd G6 l6 (.lst (x5.map V.str ++ (dI6.map (·.1)).map V.str)) = H6 at A6 S6 ⊢
    obtain ⟨x6, u6, n6, g6⟩ := A6
    refine ⟨_, rfl, by rw [List.length_map, dI7_len]; exact sz (by decide), fun m7 hm7 => ?_⟩
    have t7 := same_upd (o := .lst ((dI7.map (·.1)).map V.str)) hm7
    have v7 : (upd H6 m7 (.lst ((dI7.map (·.1)).map V.str))) m7 = _ := upd_same
    generalize upd H6 m7 (.lst ((dI7.map (·.1)).map V.str)) = G7 at t7 v7 ⊢
    refine ⟨l6, m7, _, _, rfl, rfl, t7 _ _ u6, v7, by rw [List.length_map, List.length_map, n6, dI7_len]; exact sz (by decide), fun l7 hl7 => ?_⟩
    have A7 : ∃ xs : List Str, (upd G7 l7 (.lst (x6.map V.str ++ (dI7.map (·.1)).map V.str))) l7 = some (.lst (xs.map V.str)) ∧ xs.length = 36 ∧ ∀ z ∈ xs, Gd z := ⟨x6 ++ dI7.map (·.1), by rw [List.map_append]; exact upd_same, by rw [List.length_append, n6, dI7_len], fun z hz => (List.mem_append.mp hz).elim (g6 z) (dI7_gd z)⟩
    have S7 := (S6.trans t7).trans (same_upd (o := .lst (x6.map V.str ++ (dI7.map (·.1)).map V.str)) hl7)
    generalize upd G7 l7 (.lst (x6.map V.str ++ (dI7.map (·.1)).map V.str)) = H7 at A7 S7 ⊢
    obtain ⟨x7, u7, n7, g7⟩ := A7
    refine ⟨_, rfl, by rw [List.length_map, dI8_len]; exact sz (by decide), fun m8 hm8 => ?_⟩
    have t8 := same_upd (o := .lst ((dI8.map (·.1)).map V.str)) hm8
    have v8 : (upd H7 m8 (.lst ((dI8.map (·.1)).map V.str))) m8 = _ := upd_same
    generalize upd H7 m8 (.lst ((dI8.map (·.1)).map V.str)) = G8 at t8 v8 ⊢
    refine ⟨l7, m8, _, _, rfl, rfl, t8 _ _ u7, v8, by rw [List.length_map, List.length_map, n7, dI8_len]; exact sz (by decide), fun l8 hl8 => ?_⟩
    have A8 : ∃ xs : List Str, (upd G8 l8 (.lst (x7.map V.str ++ (dI8.map (·.1)).map V.str))) l8 = some (.lst (xs.map V.str)) ∧ xs.length = 41 ∧ ∀ z ∈ xs, Gd z := ⟨x7 ++ dI8.map (·.1), by rw [List.map_append]; exact upd_same, by rw [List.length_append, n7, dI8_len], fun z hz => (List.mem_append.mp hz).elim (g7 z) (dI8_gd z)⟩
    have S8 := (S7.trans t8).trans (same_upd (o := .lst (x7.map V.str ++ (dI8.map (·.1)).map V.str)) hl8)
    generalize upd G8 l8 (.lst (x7.map V.str ++ (dI8.map (·.1)).map V.str)) = H8 at A8 S8 ⊢
    obtain ⟨x8, u8, n8, g8⟩ := A8
    refine ⟨_, rfl, by rw [List.length_map, dI9_len]; exact sz (by decide), fun m9 hm9 => ?_⟩
    have t9 := same_upd (o := .lst ((dI9.map (·.1)).map V.str)) hm9
    have v9 : (upd H8 m9 (.lst ((dI9.map (·.1)).map V.str))) m9 = _ := upd_same
    generalize upd H8 m9 (.lst ((dI9.map (·.1)).map V.str)) = G9 at t9 v9 ⊢
    refine ⟨l8, m9, _, _, rfl, rfl, t9 _ _ u8, v9, by rw [List.length_map, List.length_map, n8, dI9_len]; exact sz (by decide), fun l9 hl9 => ?_⟩
    have A9 : ∃ xs : List Str, (upd G9 l9 (.lst (x8.map V.str ++ (dI9.map (·.1)).map V.str))) l9 = some (.lst (xs.map V.str)) ∧ xs.length = 45 ∧ ∀ z ∈ xs, Gd z := ⟨x8 ++ dI9.map (·.1), by rw [List.map_append]; exact upd_same, by rw [List.length_append, n8, dI9_len], fun z hz => (List.mem_append.mp hz).elim (g8 z) (dI9_gd z)⟩
    have S9 := (S8.trans t9).trans (same_upd (o := .lst (x8.map V.str ++ (dI9.map (·.1)).map V.str)) hl9)
    generalize upd G9 l9 (.lst (x8.map V.str ++ (dI9.map (·.1)).map V.str)) = H9 at A9 S9 ⊢
    obtain ⟨x9, u9, n9, g9⟩ := A9
    refine ⟨_, rfl, by rw [List.length_map, dI10_len]; exact sz (by decide), fun m10 hm10 => ?_⟩
    have t10 := same_upd (o := .lst ((dI10.map (·.1)).map V.str)) hm10
    have v10 : (upd H9 m10 (.lst ((dI10.map (·.1)).map V.str))) m10 = _ := upd_same
    generalize upd H9 m10 (.lst ((dI10.map (·.1)).map V.str)) = G10 at t10 v10 ⊢
    refine ⟨l9, m10, _, _, rfl, rfl, t10 _ _ u9, v10, by rw [List.length_map, List.length_map, n9, dI10_len]; exact sz (by decide), fun l10 hl10 => ?_⟩
    have A10 : ∃ xs : List Str, (upd G10 l10 (.lst (x9.map V.str ++ (dI10.map (·.1)).map V.str))) l10 = some (.lst (xs.map V.str)) ∧ xs.length = 50 ∧ ∀ z ∈ xs, Gd z := ⟨x9 ++ dI10.map (·.1), by rw [List.map_append]; exact upd_same, by rw [List.length_append, n9, dI10_len], fun z hz => (List.mem_append.mp hz).elim (g9 z) (dI10_gd z)⟩
    have S10 := (S9.trans t10).trans (same_upd (o := .lst (x9.map V.str ++ (dI10.map (·.1)).map V.str)) hl10)
    generalize upd G10 l10 (.lst (x9.map V.str ++ (dI10.map (·.1)).map V.str)) = H10 at A10 S10 ⊢
    obtain ⟨x10, u10, n10, g10⟩ := A10
    refine ⟨_, rfl, by rw [List.length_map, dI11_len]; exact sz (by decide), fun m11 hm11 => ?_⟩
    have t11 := same_upd (o := .lst ((dI11.map (·.1)).map V.str)) hm11
    have v11 : (upd H10 m11 (.lst ((dI11.map (·.1)).map V.str))) m11 = _ := upd_same
    generalize upd H10 m11 (.lst ((dI11.map (·.1)).map V.str)) = G11 at t11 v11 ⊢
    refine ⟨l10, m11, _, _, rfl, rfl, t11 _ _ u10, v11, by rw [List.length_map, List.length_map, n10, dI11_len]; exact sz (by decide), fun l11 hl11 => ?_⟩
    have A11 : ∃ xs : List Str, (upd G11 l11 (.lst (x10.map V.str ++ (dI11.map (·.1)).map V.str))) l11 = some (.lst (xs.map V.str)) ∧ xs.length = 54 ∧ ∀ z ∈ xs, Gd z := ⟨x10 ++ dI11.map (·.1), by rw [List.map_append]; exact upd_same, by rw [List.length_append, n10, dI11_len], fun z hz => (List.mem_append.mp hz).elim (g10 z) (dI11_gd z)⟩
    have S11 := (S10.trans t11).trans (same_upd (o := .lst (x10.map V.str ++ (dI11.map (·.1)).map V.str)) hl11)
    generalize upd G11 l11 (.lst (x10.map V.str ++ (dI11.map (·.1)).map V.str)) = H11 at A11 S11 ⊢
    obtain ⟨x11, u11, n11, g11⟩ := A11
    refine ⟨_, rfl, _, rfl, _, rfl, l11, _, rfl, .inl (SqL.of u11), _, _, rfl, rfl, ?_⟩
    rw [List.length_map, n11]
    obtain ⟨z, hz, ez⟩ := at_strs (xs := x11) (i := cell % ((54 : Nat) : Int)) (Int.emod_nonneg _ (by decide)) (by rw [n11]; exact Int.emod_lt_of_pos _ (by decide))
    exact ⟨(show (0 : Int) < ((54 : Nat) : Int) by decide), _, _, _, _, rfl, rfl, SqL.of u11, ez, k z _ (g11 z hz) S11⟩
end
end Hv
namespace Hv
open PySem L2
theorem ps_cut {X : Cx} {st : Stmt} {t : TS} (h : PS X st t) : PS X st (fun D σ H => ∃ I : St → Hp → Prop, t { D with nx := I } σ H ∧ ∀ σ' H', I σ' H' → D.nx σ' H') := fun pins s σ H D I0 ⟨I, ht, hI⟩ => thn (h pins s σ H _ I0 ht) fun f s' hf => by
  cases f with
  | next => obtain ⟨σ', H', i, q⟩ := hf; exact ⟨σ', H', i, hI _ _ q⟩
  | brk => exact hf
  | cont => exact hf
  | ret u => exact hf
theorem sgn1 : goodB " !\"\\#$&'()*+,-./0123456789:;<=>?@ABCDEFGHIJKLMNOPQRSTUVWXYZ[]^_`abcdefghijklmnopqrstuvwxyz{|}~\t\n" = true := by decide +kernel
theorem sgn2 : goodB "0123456789 :+-" = true := by decide +kernel
theorem asc_to {z : Str} {j : Int} (a : Asc z) (h0 : 0 ≤ j) (h : j ≤ z.length) : Asc (Txt.slice z none (some j)) ∧ (Txt.slice z none (some j)).length ≤ z.length := by
  obtain ⟨n, rfl⟩ := Int.eq_ofNat_of_zero_le h0
  have e := Mt.slice_to (z := z) (j := n) (by lia)
  refine ⟨fun c hc => a c (List.mem_of_mem_take (by rw [← e]; exact hc)), ?_⟩
  rw [Mt.len_list, Mt.len_list]
  show (Txt.slice z none (some (n : Int))).cps.toList.length ≤ _
  rw [e, List.length_take]
  lia
theorem asc_from {z : Str} {j : Int} (a : Asc z) (h0 : 0 ≤ j) : Asc (Txt.slice z (some j) none) ∧ (Txt.slice z (some j) none).length ≤ z.length := by
  obtain ⟨n, rfl⟩ := Int.eq_ofNat_of_zero_le h0
  by_cases hn : n ≤ z.length
  · have e := Mt.slice_from (z := z) (i := n) hn
    refine ⟨fun c hc => a c (List.mem_of_mem_drop (by rw [← e]; exact hc)), ?_⟩
    rw [Mt.len_list, Mt.len_list]
    show (Txt.slice z (some (n : Int)) none).cps.toList.length ≤ _
    rw [e, List.length_drop]
    lia
  · have e := PyProof.Rows.slice_from_beyond (x := z) (i := (n : Int)) (by lia)
    show Asc (Txt.slice z (some (n : Int)) none) ∧ (Txt.slice z (some (n : Int)) none).length ≤ _
    rw [e]
    exact ⟨fun c hc => by simp at hc, Nat.zero_le _⟩
theorem asc_app {x y : Str} (a : Asc x) (b : Asc y) : Asc (x ++ y) := fun c hc => by
  rw [Mt.app_list] at hc
  rcases List.mem_append.mp hc with h | h
  · exact a c h
  · exact b c h
theorem len_app (x y : Str) : (x ++ y).length = x.length + y.length := by
  rw [Mt.len_list, Mt.app_list, List.length_append, ← Mt.len_list, ← Mt.len_list]
theorem f_len' {b : Nat} {ps : List Nat} {ws : List Int} (ok : FrOk b ps ws) : (Mt.fText b ps ws).length ≤ 140 := by
  have h1 := join_len 58 [Mt.txt (b : Int), Mt.pText ps, Mt.wText ws]
  have h2 := (Mt.txt_len (i := (b : Int)) (by have := ok.b16; lia)).2
  have h3 := p_len (ps := ps) fun p hp => by have := ok.pr p hp; lia
  have h4 := w_len (ws := ws) ok.wr
  have l4 := ok.l4
  have hs := ok.sum
  have hw := ok.wl
  simp only [List.map_cons, List.map_nil, List.sum_cons, List.sum_nil, List.length_cons, List.length_nil] at h1
  unfold Mt.fText
  lia
theorem asc_f {b : Nat} {ps : List Nat} {ws : List Int} (ok : FrOk b ps ws) : Asc (Mt.fText b ps ws) := fun c hc => by
  have tx : ∀ {i : Int}, -9 ≤ i ∧ i ≤ 20 → ∀ c ∈ (Mt.txt i).cps.toList, c < 128 := fun h c hc => by
    have := Mt.txt_sign h hc
    lia
  have jn : ∀ {d : Nat} {l : List Str}, d < 128 → (∀ p ∈ l, ∀ c ∈ p.cps.toList, c < 128) → ∀ c ∈ (Txt.join (Mt.one d) l).cps.toList, c < 128 := fun {d l} hd h c hc => by
    have e : Txt.join (Mt.one d) l = Str.join (Mt.one d) l := StrLaws.glued_eq_join _ _
    rw [e] at hc
    rcases Mt.mem_join hc with rfl | ⟨p, hp, hc⟩
    · exact hd
    · exact h p hp c hc
  refine jn (d := 58) (by decide) (fun p hp c hc => ?_) c hc
  simp only [List.mem_cons, List.not_mem_nil, or_false] at hp
  rcases hp with rfl | rfl | rfl
  · exact tx (by have := ok.b16; lia) c hc
  · refine jn (d := 43) (by decide) (fun p hp c hc => ?_) c hc
    obtain ⟨n, hn, rfl⟩ := List.mem_map.mp hp
    exact tx (by have := ok.pr n hn; lia) c hc
  · refine jn (d := 32) (by decide) (fun p hp c hc => ?_) c hc
    obtain ⟨n, hn, rfl⟩ := List.mem_map.mp hp
    exact tx (by have := ok.wr n hn; lia) c hc
noncomputable def spGiven : Sp := fun vs H Q _ => ∃ cell : Int, vs = [.int cell] ∧ 0 ≤ cell ∧ ∀ z H', Asc z → z.length ≤ 300 → Same H H' → Q (.str z) H'
section
variable {P : Program} {w : World} {K : PySem.W.Frag} {mg : Str → Option Value} {base : Heap}
theorem scGiven : FnScope ["cell", "kind", "text", "signs", "at", "sign"] ["cell"] (defScope sLawGiven) := ⟨rfl, rfl, rfl, by decide +kernel, rfl, by decide +kernel, by decide +kernel⟩
theorem ok_given {f : Addr} {fd : FuncData} (F : Fun K "_law_given" "_law_given" sLawGiven f fd) (T : Txt mg) (DO : Def P w K mg base 1 "_law_odd" ["cell"] spOddT) (DM : Def P w K mg base 1 "_law_mixed" ["cell", "k"] spMixed) (DF : Def P w K mg base 2 "_law_frame" ["cell", "most"] spFrame38) (DW : Def P w K mg base 1 "_law_written" ["frame"] spShow) : FnOk P w K mg base CX0 3 f fd ["cell"] spGiven := by
  refine F.ok scGiven (fun vs H Q E h => ?_) (fun cdv A outer s H vs Q E hr h => ?_)
  · obtain ⟨cell, rfl, _⟩ := h; rfl
  · obtain ⟨cell, rfl, h0, k⟩ := h
    have nd := scGiven.nd
    refine ⟨_, (pss_cons (ps_set (i := 1) nd rfl (Or.inl rfl) (pe_op op_mod (pv 0) pe_int))
      (pss_cons (ps_if (pt_cmpR op_eq (pv 1) pe_int (nomark _)) (pss_one (ps_ret (pe_fn DO (hr.mono (by decide)) (by rfl) (pa_cons (pe_op op_fdiv (pv 0) pe_int) pa_nil)))) pss_nil)
      (pss_cons (ps_set (i := 2) nd rfl (Or.inl rfl) (pe_fn DW (hr.mono (by decide)) (by rfl) (pa_cons (pe_fn DF hr (by rfl) (pa_cons (pe_fn DM (hr.mono (by decide)) (by rfl) (pa_cons (pv 0) (pa_cons pe_int pa_nil))) (pa_cons pe_int pa_nil))) pa_nil)))
      (pss_cons (ps_set (i := 3) nd rfl (Or.inl rfl) pe_str)
      (pss_cons (ps_cut (ps_if (pt_cmpR op_gt (pe_op op_mod (pe_op op_fdiv (pv 0) pe_int) pe_int) pe_int (nomark _)) (pss_one (ps_set (i := 3) nd rfl (Or.inl rfl) pe_str)) pss_nil))
      (pss_cons (ps_set (i := 4) nd rfl (Or.inl rfl) (pe_op op_mod (pe_op op_fdiv (pv 0) pe_int) (pe_op op_add (lenT T.len (by rfl) (pv 2)) pe_int)))
      (pss_cons (ps_set (i := 5) nd rfl (Or.inl rfl) (pe_ix ix_str (pv 3) (pe_op op_mod (pe_op op_fdiv (pv 0) pe_int) (lenT T.len (by rfl) (pv 3))) (by intro _ _; rfl)))
      (pss_cons (ps_if (pt_cmpR op_eq (pv 1) pe_int (nomark _)) (pss_one (ps_ret (pe_op op_add_str (pe_slice sl_str (pv 2) po_none (po_some (pv 4))) (pe_slice sl_str (pv 2) (po_some (pe_op op_add (pv 4) pe_int)) po_none)))) pss_nil)
      (pss_one (ps_ret (pe_op op_add_str (pe_op op_add_str (pe_slice sl_str (pv 2) po_none (po_some (pv 4))) (pv 5)) (pe_slice sl_str (pv 2) (po_some (pe_op op_add (pv 4) (pe_callTy call_int1 (by rfl) T.int boot_int (pa_cons (pe_cmpR op_eq (pv 1) pe_int (nomark _)) pa_nil)))) po_none)))))))))))), ?_⟩
    refine ⟨_, rfl, _, _, rfl, rfl, (show (0 : Int) < 4 by decide), ?_⟩
    refine ⟨_, rfl, rfl, _, rfl, ite2 (fun h1 => ?_) (fun h1 => ?_)⟩
    · exact ⟨_, rfl, _, _, rfl, rfl, ⟨(show (0 : Int) < 4 by decide), (show (4 : Int) < 1073741824 by decide)⟩, _, rfl, Int.ediv_nonneg h0 (by decide), fun z H' g s' => k z H' g.1 (by have := g.2; lia) s'⟩
    refine ⟨_, rfl, _, _, rfl, h0, by decide, by decide, fun r H1 r0 s1 => ?_⟩
    refine ⟨_, rfl, r0, fun f1 a1 c1 b ps ws H2 s2 G2 _ _ _ _ => ?_⟩
    refine ⟨f1, a1, c1, b, ps, ws, rfl, G2, fun H3 s3 => ?_⟩
    have S3 := (s1.trans s2).trans s3
    have af := asc_f G2.ok
    have lf := f_len' G2.ok
    generalize Mt.fText b ps ws = z at af lf ⊢
    have hz : z.length ≤ sizeLine := Nat.le_trans lf (by decide)
    refine ⟨fun σ H' => ∃ sg, σ = [some (.int cell), some (.int (cell % 4)), some (.str z), some (.str sg), none, none] ∧ Asc sg ∧ 1 ≤ sg.length ∧ sg.length ≤ 100 ∧ Same H H', ?_, ?_⟩
    · refine ⟨_, rfl, _, _, rfl, rfl, ⟨(show (0 : Int) < 4 by decide), (show (4 : Int) < 1073741824 by decide)⟩, _, _, rfl, rfl, (show (0 : Int) < 3 by decide), _, _, rfl, rfl, _, rfl, ite2 (fun h2 => ?_) (fun h2 => ?_)⟩
      · exact ⟨_, rfl, (gd_of sgn2).1, by decide +kernel, (gd_of sgn2).2, S3⟩
      · exact ⟨_, rfl, (gd_of sgn1).1, by decide +kernel, (gd_of sgn1).2, S3⟩
    · rintro σ H4 ⟨sg, rfl, asg, l1, l2, S4⟩
      have sgz : sg.length ≤ sizeLine := Nat.le_trans l2 (by decide)
      refine ⟨_, rfl, _, _, rfl, rfl, ⟨(show (0 : Int) < 12 by decide), (show (12 : Int) < 1073741824 by decide)⟩, _, rfl, z, rfl, hz, _, _, rfl, rfl, _, _, rfl, rfl, (show (0 : Int) < (z.length : Int) + 1 by lia), ?_⟩
      have at0 : 0 ≤ cell / 12 % ((z.length : Int) + 1) := Int.emod_nonneg _ (by lia)
      have at1 : cell / 12 % ((z.length : Int) + 1) ≤ z.length := by have := Int.emod_lt_of_pos (cell / 12) (show (0 : Int) < (z.length : Int) + 1 by lia); lia
      refine ⟨_, rfl, _, rfl, _, _, rfl, rfl, ⟨(show (0 : Int) < 12000 by decide), (show (12000 : Int) < 1073741824 by decide)⟩, _, rfl, sg, rfl, sgz, _, _, rfl, rfl, (show (0 : Int) < (sg.length : Int) by lia), ?_⟩
      have ix0 : 0 ≤ cell / 12000 % (sg.length : Int) := Int.emod_nonneg _ (by lia)
      have ix1 : cell / 12000 % (sg.length : Int) < sg.length := Int.emod_lt_of_pos _ (by lia)
      obtain ⟨c, hc, ec⟩ : ∃ c ∈ sg.cps.toList, atI sg.cps.toList (cell / 12000 % (sg.length : Int)) = some c := by
        generalize cell / 12000 % (sg.length : Int) = i at ix0 ix1 ⊢
        obtain ⟨n, rfl⟩ := Int.eq_ofNat_of_zero_le ix0
        have hn : n < sg.cps.toList.length := by rw [← Mt.len_list]; lia
        exact ⟨sg.cps.toList[n], List.getElem_mem hn, atI_nat (List.getElem?_eq_getElem hn)⟩
      refine ⟨sg, _, c, rfl, rfl, sgz, ec, ?_⟩
      have ac : Asc ⟨#[c]⟩ := fun d hd => by
        have : d = c := by simpa using hd
        rw [this]
        exact asg c hc
      have lc : (⟨#[c]⟩ : Str).length = 1 := rfl
      have t0 := asc_to (z := z) (j := cell / 12 % ((z.length : Int) + 1)) af at0 at1
      refine ⟨_, rfl, rfl, _, rfl, ite2 (fun h1 => ?_) (fun h1 => ?_)⟩
      · have t1 := asc_from (z := z) (j := cell / 12 % ((z.length : Int) + 1) + 1) af (by lia)
        refine ⟨_, rfl, _, rfl, _, rfl, z, rfl, hz, _, rfl, _, rfl, _, _, rfl, rfl, _, rfl, z, rfl, hz, _, _, rfl, rfl, Nat.le_trans (show _ ≤ 1000 by lia) (by decide), ?_⟩
        exact k _ H4 (asc_app t0.1 t1.1) (by rw [len_app]; lia) S4
      · refine ⟨_, rfl, _, rfl, _, rfl, z, rfl, hz, _, rfl, _, _, rfl, rfl, Nat.le_trans (show _ ≤ 1000 by lia) (by decide), ?_⟩
        refine ⟨_, rfl, _, rfl, _, rfl, rfl, .inr ⟨_, rfl, _, _, rfl, rfl, ?_⟩⟩
        have j0 : 0 ≤ cell / 12 % ((z.length : Int) + 1) + (if decide (V.int (cell % 4) = V.int 2) = true then (1 : Int) else 0) := by split <;> lia
        have t1 := asc_from (z := z) (j := cell / 12 % ((z.length : Int) + 1) + (if decide (V.int (cell % 4) = V.int 2) = true then (1 : Int) else 0)) af j0
        refine ⟨_, rfl, z, rfl, hz, _, _, rfl, rfl, ?_, ?_⟩
        · rw [len_app]
          exact Nat.le_trans (show _ ≤ 1000 by lia) (by decide)
        · exact k _ H4 (asc_app (asc_app t0.1 ac) t1.1) (by rw [len_app, len_app]; lia) S4
end
end Hv
namespace L2
open PySem PySem.Spec PyProof.Rows
section
variable {X : Cx}
end
theorem cut_from {xs : List V} {k : Nat} : cutV xs (some (k : Int)) none = xs.drop k := by
  unfold cutV
  rw [HT.sIx_nat, HT.sIx_none]
  rcases Nat.le_total k xs.length with h | h
  · rw [Nat.min_eq_left h, List.take_of_length_le (by rw [List.length_drop]; lia)]
  · rw [Nat.min_eq_right h, List.drop_of_length_le (Nat.le_refl _), List.drop_of_length_le h]
    simp
end L2
namespace Hv
open PySem L2
theorem off_sm {D : List Addr} {H H' : Hp} (s : Same H H') : Same (Off D H) (Off D H') := off_kp (Kp.of s)
noncomputable def Store (H : Hp) (d : Addr) : Prop := ∃ o, H d = some o
theorem Store.keep {H H' : Hp} {s : Addr} (h : Store H s) (t : Same H H') : Store H' s := let ⟨o, e⟩ := h; ⟨o, t _ _ e⟩
theorem Store.off {H : Hp} {s l : Addr} (h : Store H s) (e : H l = none) : l ≠ s := fun z => by
  obtain ⟨o, q⟩ := h
  rw [z, q] at e
  cases e
theorem Store.off1 {H : Hp} {s l : Addr} (h : Store H s) (e : H l = none) : l ∉ [s] := fun z => h.off e (by simpa using z)
theorem _root_.L2.Same.same {H H1 H2 : Hp} (a : Same H H1) (b : Same H1 H2) : Same H H2 := a.trans b
structure PP (D : List Addr) where
  holds : Hp → V → Prop
  per : ∀ H H' v, Same H H' → holds H v → holds H' v
noncomputable abbrev Le {D : List Addr} (P P' : PP D) : Prop := ∀ H v, P.holds H v → P'.holds H v
noncomputable def thP (D : List Addr) (n w : Nat) : PP D := ⟨fun H v => Th (Off D H) n w v, fun _ _ _ k h => h.keep (off_sm k)⟩
noncomputable def inP (D : List Addr) (lo hi : Int) : PP D := ⟨fun _ v => ∃ i, v = .int i ∧ lo ≤ i ∧ i ≤ hi, fun _ _ _ _ h => h⟩
noncomputable def lsP {D : List Addr} (lo hi : Nat) (It : PP D) : PP D := ⟨fun H v => ∃ a xs, v = .ref a ∧ H a = some (.lst xs) ∧ a ∉ D ∧ lo ≤ xs.length ∧ xs.length ≤ hi ∧ ∀ x ∈ xs, It.holds H x,
  fun _ _ _ k ⟨a, xs, e, h, n, l1, l2, it⟩ => ⟨a, xs, e, k _ _ h, n, l1, l2, fun x hx => It.per _ _ _ k (it x hx)⟩⟩
noncomputable def Cp {D : List Addr} (ps : List (Option (PP D))) (σ : St) (H : Hp) : Prop := Paired (fun (q : Option (PP D)) (o : Option V) => ∀ P, q = some P → ∃ v, o = some v ∧ P.holds H v) ps σ
theorem Cp.per {D : List Addr} {H H' : Hp} (k : Same H H') : ∀ {ps : List (Option (PP D))} {σ : St}, Cp ps σ H → Cp ps σ H'
  | _, _, .nil => .nil
  | _, _, .cons h t => .cons (fun P e => let ⟨v, a, b⟩ := h P e; ⟨v, a, P.per _ _ _ k b⟩) (Cp.per k t)
theorem Cp.get {D : List Addr} {H : Hp} : ∀ {ps : List (Option (PP D))} {σ : St} {i : Nat} {P : PP D}, Cp ps σ H → ps[i]? = some (some P) → ∃ v, σ[i]? = some (some v) ∧ P.holds H v
  | _, _, _, _, .nil, e => by simp at e
  | _, _, 0, P, .cons h _, e => by
    simp at e
    obtain ⟨v, a, b⟩ := h P e
    exact ⟨v, by simp [a], b⟩
  | _, _, i + 1, P, .cons _ t, e => by
    obtain ⟨v, a, b⟩ := Cp.get (i := i) (P := P) t (by simpa using e)
    exact ⟨v, by simpa using a, b⟩
section
variable {X : Cx} {d : Addr} {ps : List (Option (PP [d]))}
noncomputable def tT (d : Addr) (ps : List (Option (PP [d]))) (P : PP [d]) : TE := fun σ H Q => Cp ps σ H ∧ Store H d ∧ ∀ v H', Store H' d → Same H H' → P.holds H' v → Q v H'
noncomputable def tTs (d : Addr) (ps : List (Option (PP [d]))) (m : Nat) (It : PP [d]) : TA := fun σ H Q => Cp ps σ H ∧ Store H d ∧ ∀ vs H', Store H' d → Same H H' → vs.length = m → (∀ v ∈ vs, It.holds H' v) → Q vs H'
noncomputable def tPI (d : Addr) (ps : List (Option (PP [d]))) : TO := fun σ H Q => Cp ps σ H ∧ ∀ o, Q o H
noncomputable abbrev ET (X : Cx) (d : Addr) (ps : List (Option (PP [d]))) (e : Expr) (P : PP [d]) : Prop := PE X e (tT d ps P)
theorem weak {e : Expr} {t t' : TE} (h : PE X e t) (w : ∀ σ H Q, t' σ H Q → t σ H Q) : PE X e t' := fun pins s σ H Q I q => h pins s σ H Q I (w σ H Q q)
theorem weakT {e : Expr} {t : TE} {P : PP [d]} (h : PE X e t) (w : ∀ σ H Q, Cp ps σ H → Store H d → (∀ v H', Store H' d → Same H H' → P.holds H' v → Q v H') → t σ H Q) : ET X d ps e P := fun pins s σ H Q I q => h pins s σ H Q I (w σ H Q q.1 q.2.1 q.2.2)
theorem weakTs {es : List Expr} {t : TA} {m : Nat} {It : PP [d]} (h : PA X es t) (w : ∀ σ H Q, Cp ps σ H → Store H d → (∀ vs H', Store H' d → Same H H' → vs.length = m → (∀ v ∈ vs, It.holds H' v) → Q vs H') → t σ H Q) : PA X es (tTs d ps m It) := fun pos pins s σ H Q I q => h pos pins s σ H Q I (w σ H Q q.1 q.2.1 q.2.2)
theorem weakO {e : Option Expr} {t t' : TO} (h : PO X e t) (w : ∀ σ H Q, t' σ H Q → t σ H Q) : PO X e t' := fun pins s σ H Q I q => h pins s σ H Q I (w σ H Q q)
variable {e a b : Expr} {es : List Expr} {pos : Pos} {P P' : PP [d]}
theorem e_up (h : ET X d ps e P) (l : Le P P') : ET X d ps e P' := weakT h fun _ _ _ c k q => ⟨c, k, fun v H' D' k' hv => q v H' D' k' (l _ _ hv)⟩
theorem e_val {v : V} (h : PE X e (tC v)) (hv : ∀ H, P.holds H v) : ET X d ps e P := weakT h fun _ H _ c k q => q v H k (Same.refl _) (hv H)
theorem e_var (i : Nat) (h : PE X e (tVar i)) (hi : ps[i]? = some (some P) := by rfl) : ET X d ps e P := weakT h fun σ H Q c k q => by
  obtain ⟨v, e1, e2⟩ := c.get hi
  exact ⟨v, e1, q v H k (Same.refl _) e2⟩
theorem o_none : PO X none (tPI d ps) := weakO po_none fun _ _ _ ⟨_, q⟩ => q none
theorem o_var (i : Nat) {l1 h1 : Int} (h : PE X e (tVar i)) (hi : ps[i]? = some (some (inP _ l1 h1)) := by rfl) : PO X (some e) (tPI d ps) := weakO (po_some h) fun σ H Q ⟨c, q⟩ => by
  obtain ⟨v, e1, j, rfl, _⟩ := c.get hi
  exact ⟨_, e1, j, rfl, q _⟩
theorem o_add (i : Nat) {l1 h1 n : Int} (h : PE X a (tVar i)) (h' : PE X b (tC (.int n))) (hi : ps[i]? = some (some (inP _ l1 h1)) := by rfl) : PO X (some (.BinOp a .Add b pos)) (tPI d ps) := weakO (po_some (pe_op op_add h h')) fun σ H Q ⟨c, q⟩ => by
  obtain ⟨v, e1, j, rfl, _⟩ := c.get hi
  exact ⟨_, e1, j, n, rfl, rfl, _, rfl, q _⟩
noncomputable def notStar : Expr → Bool
  | .Starred .. => false
  | _ => true
theorem star_cons {e : Expr} {es : List Expr} {env : Env} (h : notStar e = true) : starEach (e :: es) env = (false, eval e env) :: starEach es env := by
  cases e <;> first | rfl | (simp [notStar] at h)
theorem a_nil {It : PP [d]} : PA X [] (tTs d ps 0 It) := weakTs pa_nil fun _ H _ c k q => q [] H k (Same.refl _) rfl (fun _ h => by simp at h)
theorem a_cons {It : PP [d]} {m : Nat} (ha : ET X d ps e It) (hr : PA X es (tTs d ps m It)) (hs : starEach (e :: es) X.env = (false, eval e X.env) :: starEach es X.env := by exact star_cons rfl) : PA X (e :: es) (tTs d ps (m + 1) It) :=
  weakTs (pa_cons ha hr hs) fun σ H Q c k q => by
    refine ⟨c, k, fun v1 H1 D1 k1 p1 => ⟨c.per k1, D1, fun vs H2 D2 k2 hl p2 => q _ _ D2 (k1.trans k2) (by simp [hl]) fun v hv => ?_⟩⟩
    rcases List.mem_cons.mp hv with rfl | hv
    · exact It.per _ _ _ k2 p1
    · exact p2 v hv
theorem e_lst {It : PP [d]} {m : Nat} (h : PA X es (tTs d ps m It)) (hm : m ≤ 100000 := by decide) : ET X d ps (.List es pos) (lsP m m It) := weakT (pe_lst h) fun σ H Q c k q => by
  refine ⟨c, k, fun vs H1 D1 k1 hl p1 => ⟨sz (by lia), fun z hz' => q _ _ (D1.keep (same_upd hz')) (k1.same (same_upd hz')) ⟨z, vs, rfl, upd_same, D1.off1 hz', by lia, by lia, fun u hu => ?_⟩⟩⟩
  exact It.per _ _ _ (same_upd hz') (p1 u hu)
theorem ls_th {l1 h1 n w n' w' : Nat} (hn : n + 1 ≤ n' := by decide) (hw : h1 * (w + 1) ≤ w' := by decide) : Le (D := [d]) (lsP l1 h1 (thP _ n w)) (thP _ n' w') := fun H v ⟨a, xs, e, h, na, _, l2, it⟩ => by
  subst e
  exact (Th.lst (off_at h na) it l2).mono hn hw
theorem in_th {lo hi : Int} {n w : Nat} (h1 : -10000000000000000000000000 ≤ lo := by decide) (h2 : hi ≤ 10000000000000000000000000 := by decide) (hn : 1 ≤ n := by decide) (hw : 100 ≤ w := by decide) : Le (D := [d]) (inP _ lo hi) (thP _ n w) := fun H v ⟨i, e, a, b⟩ => by
  subst e
  have e25 : (10 : Nat) ^ 25 = 10000000000000000000000000 := by decide
  exact (Th.int (by lia)).mono hn hw
end
end Hv
namespace Hv
open PySem L2
section
variable {X : Cx} {d : Addr} {ps : List (Option (PP [d]))} {e a b : Expr} {es : List Expr} {pos : Pos}
theorem rep_mem {α : Type} {xs : List α} {x : α} : ∀ {k : Nat}, x ∈ (List.replicate k xs).flatten → x ∈ xs
  | 0, h => by simp at h
  | k + 1, h => by
    rw [List.replicate_succ, List.flatten_cons] at h
    rcases List.mem_append.mp h with h | h
    · exact h
    · exact rep_mem h
theorem e_rep {It : PP [d]} {l1 h1 : Nat} {j : Int} (ha : ET X d ps a (lsP l1 h1 It)) (hb : ET X d ps b (inP _ 0 j)) (hz : h1 * j.toNat ≤ 100000 := by decide) (hj : j ≤ 1000 := by decide) : ET X d ps (.BinOp a .Mult b pos) (lsP 0 (h1 * j.toNat) It) :=
  weakT (pe_op op_rep ha hb) fun σ H Q c k q => by
    refine ⟨c, k, fun v1 H1 D1 k1 p1 => ⟨c.per k1, D1, fun v2 H2 D2 k2 p2 => ?_⟩⟩
    obtain ⟨x, xs, rfl, hx, nx, a1, a2, itx⟩ := (lsP l1 h1 It).per _ _ _ k2 p1
    obtain ⟨i, rfl, i0, i1⟩ := p2
    have hm : xs.length * i.toNat ≤ h1 * j.toNat := Nat.mul_le_mul a2 (by lia)
    refine ⟨x, i, xs, rfl, rfl, hx, by lia, by lia, sz (by lia), fun z hz' => q _ _ (D2.keep (same_upd hz')) ((k1.trans k2).same (same_upd hz')) ⟨z, _, rfl, upd_same, D2.off1 hz', Nat.zero_le _, ?_, fun u hu => ?_⟩⟩
    · rw [len_rep, Nat.mul_comm]; exact hm
    · exact It.per _ _ _ (same_upd hz') (itx u (rep_mem hu))
theorem e_rep3 {It : PP [d]} {l1 h1 : Nat} {n : Nat} (ha : ET X d ps a (lsP l1 h1 It)) (hb : PE X b (tC (.int (n : Int)))) (hz : h1 * n ≤ 100000 := by decide) (hj : n ≤ 1000 := by decide) : ET X d ps (.BinOp a .Mult b pos) (lsP (l1 * n) (h1 * n) It) :=
  weakT (pe_op op_rep ha hb) fun σ H Q c k q => by
    refine ⟨c, k, fun v1 H1 D1 k1 p1 => ?_⟩
    obtain ⟨x, xs, rfl, hx, nx, a1, a2, itx⟩ := p1
    have hm : xs.length * n ≤ h1 * n := Nat.mul_le_mul_right _ a2
    have hm2 : l1 * n ≤ xs.length * n := Nat.mul_le_mul_right _ a1
    have en : ((n : Nat) : Int).toNat = n := by lia
    refine ⟨x, n, xs, rfl, rfl, hx, by lia, by lia, sz (by rw [en]; lia), fun z hz' => q _ _ (D1.keep (same_upd hz')) (k1.same (same_upd hz')) ⟨z, _, rfl, upd_same, D1.off1 hz', ?_, ?_, fun u hu => ?_⟩⟩
    · rw [len_rep, en, Nat.mul_comm n]; exact hm2
    · rw [len_rep, en, Nat.mul_comm n]; exact hm
    · exact It.per _ _ _ (same_upd hz') (itx u (rep_mem hu))
theorem e_int {i : Int} {j : _} : ET X d ps (.Constant (.int i) j pos) (inP _ i i) := e_val pe_int fun _ => ⟨i, rfl, Int.le_refl _, Int.le_refl _⟩
theorem e_neg {i : Int} {j : _} {q1 : Pos} : ET X d ps (.UnaryOp .USub (.Constant (.int i) j q1) pos) (inP _ (-i) (-i)) := weakT (pe_un un_neg pe_int) fun σ H Q c k q => ⟨i, rfl, q _ H k (Same.refl _) ⟨-i, rfl, Int.le_refl _, Int.le_refl _⟩⟩
end
end Hv
namespace Hv
open PySem L2
section
variable {X : Cx} {d : Addr} {ps : List (Option (PP [d]))} {e a b : Expr} {es : List Expr} {pos : Pos}
theorem Th.int0 {H : Hp} {i : Int} (h : i.natAbs ≤ 10 ^ 25) : Th H 0 90 (.int i) := by
  obtain ⟨dd, t, g⟩ := Th.int (H := H) h
  cases t
  refine ⟨_, .int i, g.sh, g.lv, by show (0 : Nat) ≤ 0; decide, ?_⟩
  have hl : i.natAbs.log2 < 84 := by
    by_cases h0 : i.natAbs = 0
    · rw [h0]; decide
    · exact (Nat.log2_lt h0).mpr (Nat.lt_of_le_of_lt h (by decide))
  simp only [PyData.weight]
  split <;> lia
theorem in_th0 {lo hi : Int} (h1 : -10000000000000000000000000 ≤ lo := by decide) (h2 : hi ≤ 10000000000000000000000000 := by decide) : Le (D := [d]) (inP _ lo hi) (thP _ 0 90) := fun H v ⟨i, e, a, b⟩ => by
  subst e
  have e25 : (10 : Nat) ^ 25 = 10000000000000000000000000 := by decide
  exact Th.int0 (by lia)
theorem in_in {lo hi lo' hi' : Int} (h1 : lo' ≤ lo := by decide) (h2 : hi ≤ hi' := by decide) : Le (D := [d]) (inP _ lo hi) (inP _ lo' hi') := fun H v ⟨i, e, a, b⟩ => ⟨i, e, by lia, by lia⟩
theorem e_add {l1 h1 l2 h2 : Int} (ha : ET X d ps a (inP _ l1 h1)) (hb : ET X d ps b (inP _ l2 h2)) : ET X d ps (.BinOp a .Add b pos) (inP _ (l1 + l2) (h1 + h2)) := weakT (pe_op op_add ha hb) fun σ H Q c k q => by
  refine ⟨c, k, fun v1 H1 D1 k1 p1 => ⟨c.per k1, D1, fun v2 H2 D2 k2 p2 => ?_⟩⟩
  obtain ⟨i, rfl, x1, x2⟩ := p1
  obtain ⟨j, rfl, y1, y2⟩ := p2
  exact ⟨i, j, rfl, rfl, q _ _ D2 (k1.trans k2) ⟨_, rfl, by lia, by lia⟩⟩
theorem e_pow25 {j1 j2 : _} {q1 q2 : Pos} : ET X d ps (.BinOp (.Constant (.int 10) j1 q1) .Pow (.Constant (.int 25) j2 q2) pos) (inP _ 10000000000000000000000000 10000000000000000000000000) := weakT (pe_op op_pow pe_int pe_int) fun σ H Q c k q =>
  ⟨10, 25, rfl, rfl, ⟨by decide, by decide, by decide⟩, q _ H k (Same.refl _) ⟨_, rfl, by decide, by decide⟩⟩
theorem sum_le {B : Int} : ∀ {ns : List Int}, (∀ n ∈ ns, n ≤ B) → ns.sum ≤ ns.length * B
  | [], _ => by simp
  | n :: r, h => by
    have h1 := h n List.mem_cons_self
    have h2 := sum_le (ns := r) fun m hm => h m (List.mem_cons_of_mem _ hm)
    rw [List.sum_cons, List.length_cons]
    push_cast
    rw [Int.add_mul, Int.one_mul]
    lia
end
noncomputable def odP (D : List Addr) (lo hi : Int) : PP D := ⟨fun H v => Th (Off D H) 1 100 v ∧ betw v lo hi = false, fun _ _ _ k h => ⟨h.1.keep (off_sm k), h.2⟩⟩
noncomputable def hsP (D : List Addr) (L : Nat) (lo hi : Int) : PP D := ⟨fun H v => ∃ a xs, v = .ref a ∧ H a = some (.lst xs) ∧ a ∉ D ∧ xs.length ≤ L ∧ (∀ x ∈ xs, Th (Off D H) 1 100 x) ∧ ∃ x ∈ xs, betw x lo hi = false,
  fun _ _ _ k ⟨a, xs, e, h, n, l, it, z⟩ => ⟨a, xs, e, k _ _ h, n, l, fun x hx => (it x hx).keep (off_sm k), z⟩⟩
noncomputable def ilP (D : List Addr) (L : Nat) (φ : List Int → Prop) : PP D := ⟨fun H v => ∃ a ns, v = .ref a ∧ H a = some (.lst (ns.map V.int)) ∧ a ∉ D ∧ ns.length ≤ L ∧ (∀ n ∈ ns, -1000 ≤ n ∧ n ≤ 1000) ∧ φ ns,
  fun H H' v k h => by obtain ⟨a, ns, e, h, n, r⟩ := h; exact ⟨a, ns, e, k _ _ h, n, r⟩⟩
noncomputable def trP (D : List Addr) (n w : Nat) (φ : PyData → Prop) : PP D := ⟨fun H v => ∃ dd, Tree (Off D H) v dd ∧ GD n w dd ∧ φ dd, fun _ _ _ k ⟨dd, t, r⟩ => ⟨dd, t.keep (off_sm k), r⟩⟩
noncomputable def nzF (n : Nat) (z : PyData) : Prop := (rowD (-9) 9 z && decide ((lenD z : Int) = (n : Int))) = false
noncomputable def ybF (y : PyData) : Prop := (rowD 1 6 y && (decide (2 ≤ lenD y) && decide (lenD y ≤ 4))) = false
noncomputable def nfF (d : PyData) : Prop := isFrameD d = false
theorem _root_.L2.GD.up {n w n' w' : Nat} {d : PyData} (g : GD n w d) (h1 : n ≤ n') (h2 : w ≤ w') : GD n' w' d := ⟨g.sh, g.lv, Nat.le_trans g.dp h1, Nat.le_trans g.wt h2⟩
theorem tr_tr {D : List Addr} {n w n' w' : Nat} {φ ψ : PyData → Prop} (hn : n ≤ n') (hw : w ≤ w') (h : ∀ d, φ d → ψ d) : Le (trP D n w φ) (trP D n' w' ψ) := fun H v ⟨dd, t, g, z⟩ => ⟨dd, t, g.up hn hw, h _ z⟩
theorem ints_gd {ns : List Int} (h : ∀ n ∈ ns, -1000 ≤ n ∧ n ≤ 1000) {L : Nat} (hl : ns.length ≤ L) : GD 1 (L * 91) (.list (ns.map PyData.int)) := by
  have key : ∀ ms : List Int, (∀ n ∈ ms, -1000 ≤ n ∧ n ≤ 1000) → PyData.showableAll (ms.map PyData.int) = true ∧ PyData.leavesShortAll 40 (ms.map PyData.int) = true ∧ PyData.depthAll (ms.map PyData.int) ≤ 0 := by
    intro ms
    induction ms with
    | nil => exact fun _ => ⟨rfl, rfl, Nat.le_refl _⟩
    | cons m r ih =>
      intro hm
      obtain ⟨a1, a2, a3⟩ := ih fun n hn => hm n (List.mem_cons_of_mem _ hn)
      have hb := hm m List.mem_cons_self
      obtain ⟨dd, t, g⟩ := Th.int0 (H := fun _ => none) (i := m) (by have e25 : (10 : Nat) ^ 25 = 10000000000000000000000000 := by decide
                                                                     lia)
      cases t
      refine ⟨?_, ?_, ?_⟩
      · simp only [List.map_cons, PyData.showableAll, g.sh, a1, Bool.and_self]
      · simp only [List.map_cons, PyData.leavesShortAll, g.lv, a2, Bool.and_self]
      · simp only [List.map_cons, PyData.depthAll]; have := g.dp; lia
  obtain ⟨a1, a2, a3⟩ := key ns h
  have hw := ints_weight (ns := ns) h
  refine ⟨?_, ?_, ?_, ?_⟩
  · simpa only [PyData.showable] using a1
  · simpa only [PyData.leavesShort] using a2
  · simp only [PyData.depth]; lia
  · simp only [PyData.weight]; exact Nat.le_trans hw (Nat.mul_le_mul_right _ hl)
theorem sumD_ints (ns : List Int) : sumD (.list (ns.map PyData.int)) = ns.sum := by
  simp only [sumD, List.map_map]
  have e0 : (valD ∘ PyData.int) = (id : Int → Int) := funext fun _ => rfl
  rw [e0, List.map_id]
theorem lenD_ints (ns : List Int) : lenD (.list (ns.map PyData.int)) = ns.length := by simp [lenD]
theorem il_tr {D : List Addr} {L n' w' : Nat} {φ : List Int → Prop} {ψ : PyData → Prop} (h : ∀ ns, φ ns → ψ (.list (ns.map PyData.int))) (hn : 1 ≤ n' := by decide) (hw : L * 91 ≤ w' := by decide) : Le (ilP D L φ) (trP D n' w' ψ) := fun H v ⟨a, ns, e, ha, na, l, b, z⟩ => by
  subst e
  exact ⟨_, .lst (off_at ha na) (trees_ints' ns), (ints_gd b l).up hn hw, h ns z⟩
theorem il_th {D : List Addr} {L n' w' : Nat} {φ : List Int → Prop} (hn : 1 ≤ n' := by decide) (hw : L * 91 ≤ w' := by decide) : Le (ilP D L φ) (thP D n' w') := fun H v h => by
  obtain ⟨dd, t, g, _⟩ := il_tr (ψ := fun _ => True) (fun _ _ => trivial) hn hw H v h
  exact ⟨dd, t, g⟩
theorem il_ls {D : List Addr} {L : Nat} {φ : List Int → Prop} : Le (ilP D L φ) (lsP 0 L (thP D 1 100)) := fun H v ⟨a, ns, e, ha, na, l, b, z⟩ => ⟨a, _, e, ha, na, Nat.zero_le _, by rw [List.length_map]; exact l, fun x hx => by
  obtain ⟨n, hn, rfl⟩ := List.mem_map.mp hx
  have := b n hn
  have e25 : (10 : Nat) ^ 25 = 10000000000000000000000000 := by decide
  exact Th.int (by lia)⟩
theorem hs_tr {D : List Addr} {L n' w' : Nat} {lo hi : Int} {ψ : PyData → Prop} (h : ∀ d, rowD lo hi d = false → ψ d) (hn : 2 ≤ n' := by decide) (hw : L * 101 ≤ w' := by decide) : Le (hsP D L lo hi) (trP D n' w' ψ) := fun H v ⟨a, xs, e, ha, na, l, it, x, hx, hb⟩ => by
  subst e
  obtain ⟨ds, ts, h1, h2, h3, h4⟩ := trees_of it
  refine ⟨.list ds, .lst (off_at ha na) ts, ⟨?_, ?_, ?_, ?_⟩, h _ ?_⟩
  · simpa only [PyData.showable] using h1
  · simpa only [PyData.leavesShort] using h2
  · simp only [PyData.depth]; lia
  · simp only [PyData.weight]
    exact Nat.le_trans h4 (Nat.le_trans (Nat.mul_le_mul_right _ l) hw)
  · show ds.all (betwD lo hi) = false
    rw [← trees_all ts, List.all_eq_false]
    exact ⟨x, hx, by rw [hb]; decide⟩
theorem row_nz {n : Nat} {d : PyData} (h : rowD (-9) 9 d = false) : nzF n d := by unfold nzF; rw [h]; rfl
theorem row_yb {d : PyData} (h : rowD 1 6 d = false) : ybF d := by unfold ybF; rw [h]; rfl
theorem isL_row {lo hi : Int} {d : PyData} (h : isL d = false) : rowD lo hi d = false := by cases d <;> first | rfl | simp [isL] at h
section
variable {X : Cx} {d : Addr} {ps : List (Option (PP [d]))} {e a b c : Expr} {es : List Expr} {pos : Pos}
theorem e_nonL {j : _} : ET X d ps (.Constant .none j pos) (trP _ 3 7300 fun y => isL y = false) := e_val pe_non fun _ => ⟨_, .non, ⟨rfl, rfl, by decide, by decide⟩, rfl⟩
theorem e_tupleL {L : Nat} {φ : List Int → Prop} {q1 : Pos} (hg : Gl X "tuple") (hm : X.mg "tuple" = none) (ha : ET X d ps a (ilP _ L φ)) (hL : L ≤ 60 := by decide) (hs : starEach [a] X.env = (false, eval a X.env) :: starEach [] X.env := by rfl) (hpl : (backTo pos (starEach [] X.env)).any (·.1) = false := by rfl) :
    ET X d ps (.Call (.Name "tuple" q1) [a] [] pos) (trP _ 3 7300 fun y => isL y = false) :=
  weakT (pe_callTy call_tuple_of hg hm boot_tuple (pa_cons ha pa_nil hs) (he := hs) (hpl := hpl)) fun σ H Q c k q => by
    refine ⟨c, k, fun v1 H1 D1 k1 p1 => ?_⟩
    obtain ⟨x, ns, rfl, hx, nx, l, bb, _⟩ := p1
    refine ⟨x, _, rfl, .inl ⟨SqL.of hx, fun z hz' => q _ _ (D1.keep (same_upd hz')) (k1.same (same_upd hz')) ?_⟩⟩
    have g := ints_gd bb l
    refine ⟨.tuple (ns.map PyData.int), .tup (off_at upd_same (D1.off1 hz')) (trees_ints' ns), ⟨?_, ?_, ?_, ?_⟩, rfl⟩
    · have := g.sh; simpa only [PyData.showable] using this
    · have := g.lv; simpa only [PyData.leavesShort] using this
    · have := g.dp; simp only [PyData.depth] at this ⊢; lia
    · have := g.wt; simp only [PyData.weight] at this ⊢; lia
theorem cut_ints (ns : List Int) (lo hi : Option Int) : ∃ ms : List Int, cutV (ns.map V.int) lo hi = ms.map V.int ∧ (∀ n ∈ ms, n ∈ ns) ∧ ms.length ≤ ns.length := by
  refine ⟨(ns.drop (HT.sIx (ns.map V.int).length 0 lo)).take (HT.sIx (ns.map V.int).length (ns.map V.int).length hi - HT.sIx (ns.map V.int).length 0 lo), ?_, fun n hn => List.mem_of_mem_drop (List.mem_of_mem_take hn), ?_⟩
  · unfold cutV
    rw [← List.map_drop, ← List.map_take]
  · rw [List.length_take, List.length_drop]; lia
noncomputable def cutF (φ : List Int → Prop) (ns : List Int) : Prop := ∃ xs, φ xs ∧ ∀ n ∈ ns, n ∈ xs
theorem e_sliceI {φ : List Int → Prop} {L : Nat} {lo hi : Option Expr} {p2 : Pos} (ha : ET X d ps a (ilP _ L φ)) (hlo : PO X lo (tPI d ps)) (hhi : PO X hi (tPI d ps)) : ET X d ps (.Subscript a (.Slice lo hi none p2) pos) (ilP _ L (cutF φ)) :=
  weakT (pe_slice sl_list ha hlo hhi) fun σ H Q c k q => by
    refine ⟨c, k, fun v1 H1 D1 k1 p1 => ⟨c.per k1, fun o1 => ⟨c.per k1, fun o2 => ?_⟩⟩⟩
    obtain ⟨x, ns, rfl, hx, nx, l, bb, z⟩ := p1
    obtain ⟨ms, em, h1, h2⟩ := cut_ints ns o1 o2
    refine ⟨x, _, rfl, SqL.of hx, fun y hy => q _ _ (D1.keep (same_upd hy)) (k1.same (same_upd hy)) ⟨y, ms, rfl, by rw [upd_same, em], D1.off1 hy, by lia, fun n hn => bb n (h1 n hn), ns, z, h1⟩⟩
theorem e_drop1 {φ : List Int → Prop} {L : Nat} {j : _} {q1 p2 : Pos} (ha : ET X d ps a (ilP _ L φ)) : ET X d ps (.Subscript a (.Slice (some (.Constant (.int 1) j q1)) none none p2) pos) (ilP _ L fun ns => ∃ xs, φ xs ∧ ns = xs.drop 1) :=
  weakT (pe_slice sl_list ha (po_some pe_int) po_none) fun σ H Q c k q => by
    refine ⟨c, k, fun v1 H1 D1 k1 p1 => ?_⟩
    obtain ⟨x, ns, rfl, hx, nx, l, bb, z⟩ := p1
    have e1 : cutV (ns.map V.int) (some (1 : Int)) none = (ns.drop 1).map V.int := by
      have := cut_from (xs := ns.map V.int) (k := 1)
      rw [List.map_drop]; exact this
    refine ⟨1, rfl, x, _, rfl, SqL.of hx, fun y hy => q _ _ (D1.keep (same_upd hy)) (k1.same (same_upd hy)) ⟨y, ns.drop 1, rfl, by rw [upd_same, e1], D1.off1 hy, by rw [List.length_drop]; lia, fun n hn => bb n (List.mem_of_mem_drop hn), ns, z, rfl⟩⟩
theorem e_catI {φ ψ : List Int → Prop} {L M : Nat} (ha : ET X d ps a (ilP _ L φ)) (hb : ET X d ps b (ilP _ M ψ)) (hz : L + M ≤ 100000 := by decide) : ET X d ps (.BinOp a .Add b pos) (ilP _ (L + M) fun ns => ∃ xs ys, φ xs ∧ ψ ys ∧ ns = xs ++ ys) :=
  weakT (pe_op op_cat ha hb) fun σ H Q c k q => by
    refine ⟨c, k, fun v1 H1 D1 k1 p1 => ⟨c.per k1, D1, fun v2 H2 D2 k2 p2 => ?_⟩⟩
    obtain ⟨x, ns, rfl, hx, nx, l, bb, z⟩ := (ilP [d] L φ).per _ _ _ k2 p1
    obtain ⟨y, ms, rfl, hy, ny, l', bb', z'⟩ := p2
    refine ⟨x, y, _, _, rfl, rfl, hx, hy, sz (by rw [List.length_map, List.length_map]; lia), fun t ht => q _ _ (D2.keep (same_upd ht)) ((k1.trans k2).same (same_upd ht)) ⟨t, ns ++ ms, rfl, by rw [upd_same, List.map_append], D2.off1 ht, by rw [List.length_append]; lia, fun n hn => ?_, ns, ms, z, z', rfl⟩⟩
    rcases List.mem_append.mp hn with hn | hn
    · exact bb n hn
    · exact bb' n hn
theorem e_oneI {lo hi : Int} (ha : ET X d ps a (inP _ lo hi)) (h1 : -1000 ≤ lo := by decide) (h2 : hi ≤ 1000 := by decide) (hs : starEach [a] X.env = (false, eval a X.env) :: starEach [] X.env := by exact star_cons rfl) : ET X d ps (.List [a] pos) (ilP _ 1 fun ns => ∃ i, ns = [i] ∧ lo ≤ i ∧ i ≤ hi) :=
  weakT (pe_lst (pa_cons ha pa_nil hs)) fun σ H Q c k q => by
    refine ⟨c, k, fun v1 H1 D1 k1 p1 => ?_⟩
    obtain ⟨i, rfl, i0, i1⟩ := p1
    refine ⟨sz (by simp), fun t ht => q _ _ (D1.keep (same_upd ht)) (k1.same (same_upd ht)) ⟨t, [i], rfl, upd_same, D1.off1 ht, by simp, fun n hn => ?_, i, rfl, i0, i1⟩⟩
    have : n = i := by simpa using hn
    lia
theorem e_has3 {L M : Nat} {l1 l2 : Nat} {lo hi : Int} {q1 q2 : Pos} (ha : ET X d ps a (lsP l1 L (thP _ 1 100))) (hb : ET X d ps b (odP _ lo hi)) (hc : ET X d ps c (lsP l2 M (thP _ 1 100))) (hz : L + 1 + M ≤ 100000 := by decide)
    (hs : starEach [b] X.env = (false, eval b X.env) :: starEach [] X.env := by exact star_cons rfl) : ET X d ps (.BinOp (.BinOp a .Add (.List [b] q1) q2) .Add c pos) (hsP _ (L + 1 + M) lo hi) :=
  weakT (pe_op op_cat (pe_op op_cat ha (pe_lst (pa_cons hb pa_nil hs))) hc) fun σ H Q c k q => by
    refine ⟨c, k, fun v1 H1 D1 k1 p1 => ⟨c.per k1, D1, fun v2 H2 D2 k2 p2 => ⟨sz (by simp), fun t ht => ?_⟩⟩⟩
    have s2 := same_upd (o := .lst [v2]) ht
    have u2 : (upd H2 t (.lst [v2])) t = _ := upd_same
    have nt := D2.off1 ht
    have D3 := D2.keep s2
    have k3 := (k1.trans k2).same s2
    generalize upd H2 t (.lst [v2]) = H3 at s2 u2 D3 k3 ⊢
    obtain ⟨x, xs, rfl, hx, nx, a1, a2, itx⟩ := (lsP l1 L (thP [d] 1 100)).per _ _ _ (k2.same s2) p1
    have p2 := (odP [d] lo hi).per _ _ _ s2 p2
    refine ⟨x, t, xs, _, rfl, rfl, hx, u2, sz (by simp; lia), fun y hy => ?_⟩
    have s4 := same_upd (o := .lst (xs ++ [v2])) hy
    have u4 : (upd H3 y (.lst (xs ++ [v2]))) y = _ := upd_same
    have ny := D3.off1 hy
    have D4 := D3.keep s4
    generalize upd H3 y (.lst (xs ++ [v2])) = H4 at s4 u4 D4 ⊢
    refine ⟨c.per (k3.same s4), D4, fun v5 H5 D5 k5 p5 => ?_⟩
    obtain ⟨z, zs, rfl, hz5, nz, b1, b2, itz⟩ := p5
    refine ⟨y, z, _, zs, rfl, rfl, k5 _ _ u4, hz5, sz (by simp; lia), fun r hr => q _ _ (D5.keep (same_upd hr)) (((k3.same s4).trans k5).same (same_upd hr)) ⟨r, xs ++ [v2] ++ zs, rfl, upd_same, D5.off1 hr, by simp; lia, fun u hu => ?_, v2, by simp, p2.2⟩⟩
    have kk : Same H3 (upd H5 r (.lst (xs ++ [v2] ++ zs))) := ((s4.trans k5).same (same_upd hr))
    rcases List.mem_append.mp hu with hu | hu
    · rcases List.mem_append.mp hu with hu | hu
      · exact (thP [d] 1 100).per _ _ _ kk (itx u hu)
      · have : u = v2 := by simpa using hu
        subst this
        exact (thP [d] 1 100).per _ _ _ kk p2.1
    · exact (thP [d] 1 100).per _ _ _ (same_upd hr) (itz u hu)
theorem e_tup3 {A B C : PP [d]} {x1} (ha : ET X d ps a A) (hb : ET X d ps b B) (hc : ET X d ps c C)
    (h : ∀ H v1 v2 v3, A.holds H v1 → B.holds H v2 → C.holds H v3 → ∃ d1 d2 d3, Tree (Off [d] H) v1 d1 ∧ Tree (Off [d] H) v2 d2 ∧ Tree (Off [d] H) v3 d3 ∧ GD 3 26000 d1 ∧ GD 3 26000 d2 ∧ GD 3 26000 d3 ∧ isFrameD (.tuple [d1, d2, d3]) = false)
    (hs : starEach [a, b, c] X.env = (false, eval a X.env) :: starEach [b, c] X.env := by exact star_cons rfl) (hs2 : starEach [b, c] X.env = (false, eval b X.env) :: starEach [c] X.env := by exact star_cons rfl) (hs3 : starEach [c] X.env = (false, eval c X.env) :: starEach [] X.env := by exact star_cons rfl) :
    ET X d ps (.Tuple [a, b, c] x1 pos) (trP _ 4 80000 nfF) := weakT (pe_tup (pa_cons ha (pa_cons hb (pa_cons hc pa_nil hs3) hs2) hs)) fun σ H Q c k q => by
  refine ⟨c, k, fun v1 H1 D1 k1 p1 => ⟨c.per k1, D1, fun v2 H2 D2 k2 p2 => ⟨(c.per k1).per k2, D2, fun v3 H3 D3 k3 p3 => ⟨sz (by simp), fun t ht => q _ _ (D3.keep (same_upd ht)) (((k1.trans k2).trans k3).same (same_upd ht)) ?_⟩⟩⟩⟩
  have kk : Same H3 (upd H3 t (.tup [v1, v2, v3])) := (same_upd ht)
  obtain ⟨d1, d2, d3, t1, t2, t3, g1, g2, g3, hf⟩ := h _ _ _ _ (A.per _ _ _ ((k2.trans k3).trans kk) p1) (B.per _ _ _ (k3.trans kk) p2) (C.per _ _ _ kk p3)
  refine ⟨.tuple [d1, d2, d3], .tup (off_at upd_same (D3.off1 ht)) (.cons t1 (.cons t2 (.cons t3 .nil))), ⟨?_, ?_, ?_, ?_⟩, hf⟩
  · simp only [PyData.showable, PyData.showableAll, g1.sh, g2.sh, g3.sh, Bool.and_self]
  · simp only [PyData.leavesShort, PyData.leavesShortAll, g1.lv, g2.lv, g3.lv, Bool.and_self]
  · simp only [PyData.depth, PyData.depthAll]; have := g1.dp; have := g2.dp; have := g3.dp; lia
  · simp only [PyData.weight, PyData.weightAll]; have := g1.wt; have := g2.wt; have := g3.wt; lia
theorem e_tupX {m : Nat} {x1} (h : PA X es (tTs d ps m (thP _ 3 19000))) (hm : m ≤ 4 := by decide) (h3 : m ≠ 3 := by decide) : ET X d ps (.Tuple es x1 pos) (trP _ 4 80000 nfF) := weakT (pe_tup h) fun σ H Q c k q => by
  refine ⟨c, k, fun vs H1 D1 k1 hl p1 => ⟨sz (by lia), fun z hz' => q _ _ (D1.keep (same_upd hz')) (k1.same (same_upd hz')) ?_⟩⟩
  obtain ⟨ds', ts, h1, h2, h3', h4⟩ := trees_of (H := Off [d] (upd H1 z (.tup vs))) (n := 3) (w := 19000) (fun u hu => Th.keep (p1 u hu) (off_sm (same_upd hz')))
  refine ⟨.tuple ds', .tup (off_at upd_same (D1.off1 hz')) ts, ⟨?_, ?_, ?_, ?_⟩, if_len (by rw [← trees_len ts, hl]; exact h3)⟩
  · simpa only [PyData.showable] using h1
  · simpa only [PyData.leavesShort] using h2
  · simp only [PyData.depth]; lia
  · simp only [PyData.weight]
    have : vs.length * (19000 + 1) ≤ 4 * (19000 + 1) := Nat.mul_le_mul_right _ (by lia)
    lia
theorem ls_nf {l1 h1 n w : Nat} (hn : n ≤ 3 := by decide) (hw : h1 * (w + 1) ≤ 80000 := by decide) : Le (D := [d]) (lsP l1 h1 (thP _ n w)) (trP _ 4 80000 nfF) := fun H v ⟨a, xs, e, h, na, _, l2, it⟩ => by
  subst e
  obtain ⟨ds', ts, a1, a2, a3, a4⟩ := trees_of it
  refine ⟨.list ds', .lst (off_at h na) ts, ⟨?_, ?_, ?_, ?_⟩, rfl⟩
  · simpa only [PyData.showable] using a1
  · simpa only [PyData.leavesShort] using a2
  · simp only [PyData.depth]; lia
  · simp only [PyData.weight]; exact Nat.le_trans a4 (Nat.le_trans (Nat.mul_le_mul_right _ l2) hw)
theorem in_nf {lo hi : Int} (h1 : -10000000000000000000000000 ≤ lo := by decide) (h2 : hi ≤ 10000000000000000000000000 := by decide) : Le (D := [d]) (inP _ lo hi) (trP _ 4 80000 nfF) := fun H v ⟨i, e, a, b⟩ => by
  subst e
  have e25 : (10 : Nat) ^ 25 = 10000000000000000000000000 := by decide
  obtain ⟨dd, t, g⟩ := Th.int (H := Off [d] H) (i := i) (by lia)
  cases t
  exact ⟨_, .int i, g.up (by decide) (by decide), rfl⟩
theorem e_nonF {j : _} : ET X d ps (.Constant .none j pos) (trP _ 4 80000 nfF) := e_val pe_non fun _ => ⟨_, .non, ⟨rfl, rfl, by decide, by decide⟩, rfl⟩
theorem in_od {lo hi l h : Int} (h1 : -10000000000000000000000000 ≤ l) (h2 : h ≤ 10000000000000000000000000) (hh : h < lo ∨ hi < l) : Le (D := [d]) (inP _ l h) (odP _ lo hi) := fun H v ⟨i, e, a, b⟩ => by
  subst e
  have e25 : (10 : Nat) ^ 25 = 10000000000000000000000000 := by decide
  refine ⟨Th.int (by lia), ?_⟩
  simp only [betw, Bool.and_eq_false_iff, decide_eq_false_iff_not]
  lia
theorem ls_od {l1 h1 : Nat} {lo hi : Int} (hw : h1 ≤ 1 := by decide) : Le (D := [d]) (lsP l1 h1 (thP _ 0 90)) (odP _ lo hi) := fun H v ⟨a, xs, e, h, na, _, l2, it⟩ => by
  subst e
  exact ⟨(Th.lst (off_at h na) it l2).mono (by decide) (by lia), rfl⟩
theorem e_blO {t : Bool} {j : _} {lo hi : Int} : ET X d ps (.Constant (.bool t) j pos) (odP _ lo hi) := e_val pe_bl fun _ => ⟨Th.bl t, rfl⟩
theorem e_nonO {j : _} {lo hi : Int} : ET X d ps (.Constant .none j pos) (odP _ lo hi) := e_val pe_non fun _ => ⟨Th.non, rfl⟩
theorem e_strO {x : Str} {j : _} {lo hi : Int} (h : GD 1 100 (.str x)) : ET X d ps (.Constant (.str x) j pos) (odP _ lo hi) := e_val pe_str fun _ => ⟨⟨_, .str x, h⟩, rfl⟩
end
theorem gd_s1 : GD 1 100 (.str "1") := ⟨rfl, by decide +kernel, by decide, by decide⟩
noncomputable def asgVal : Stmt → Expr
  | .Assign _ e _ => e
  | .Return (some e) _ => e
  | _ => .Constant .none 0 ⟨0, 0, 0, 0⟩
noncomputable def sT (d : Addr) (ps ps' : List (Option (PP [d]))) : TS := fun D σ H => Cp ps σ H ∧ Store H d ∧ ∀ σ' H', Cp ps' σ' H' → Store H' d → Same H H' → D.nx σ' H'
section
variable {X : Cx} {d : Addr} {ps ps' : List (Option (PP [d]))} {e a b c : Expr} {es : List Expr} {pos : Pos} {R : PP [d]} {st : Stmt} {rest : List Stmt}
theorem e_twoI {l1 h1 l2 h2 : Int} (ha : ET X d ps a (inP _ l1 h1)) (hb : ET X d ps b (inP _ l2 h2)) (z1 : -1000 ≤ l1 := by decide) (z2 : h1 ≤ 1000 := by decide) (z3 : -1000 ≤ l2 := by decide) (z4 : h2 ≤ 1000 := by decide)
    (hs : starEach [a, b] X.env = (false, eval a X.env) :: starEach [b] X.env := by exact star_cons rfl) (hs2 : starEach [b] X.env = (false, eval b X.env) :: starEach [] X.env := by exact star_cons rfl) : ET X d ps (.List [a, b] pos) (ilP _ 2 fun ns => ∃ i j, ns = [i, j] ∧ (l1 ≤ i ∧ i ≤ h1) ∧ l2 ≤ j ∧ j ≤ h2) :=
  weakT (pe_lst (pa_cons ha (pa_cons hb pa_nil hs2) hs)) fun σ H Q c k q => by
    refine ⟨c, k, fun v1 H1 D1 k1 p1 => ⟨c.per k1, D1, fun v2 H2 D2 k2 p2 => ?_⟩⟩
    obtain ⟨i, rfl, i0, i1⟩ := p1
    obtain ⟨j, rfl, j0, j1⟩ := p2
    refine ⟨sz (by simp), fun t ht => q _ _ (D2.keep (same_upd ht)) ((k1.trans k2).same (same_upd ht)) ⟨t, [i, j], rfl, upd_same, D2.off1 ht, by simp, fun n hn => ?_, i, j, rfl, ⟨i0, i1⟩, j0, j1⟩⟩
    rcases List.mem_cons.mp hn with rfl | hn
    · lia
    · have : n = j := by simpa using hn
      lia
theorem in_T {lo hi : Int} {H : Hp} {v : V} (h : (inP [d] lo hi).holds H v) (h1 : -1000 ≤ lo) (h2 : hi ≤ 1000) : ∃ i, Tree (Off [d] H) v (.int i) ∧ GD 3 26000 (.int i) := by
  obtain ⟨i, rfl, a, b⟩ := h
  have e25 : (10 : Nat) ^ 25 = 10000000000000000000000000 := by decide
  obtain ⟨dd, t, g⟩ := Th.int (H := Off [d] H) (i := i) (by lia)
  cases t
  exact ⟨i, .int i, g.up (by decide) (by decide)⟩
theorem il_T {L : Nat} {φ : List Int → Prop} {H : Hp} {v : V} (h : (ilP [d] L φ).holds H v) (hL : L * 91 ≤ 26000) : ∃ ns, φ ns ∧ Tree (Off [d] H) v (.list (ns.map PyData.int)) ∧ GD 3 26000 (.list (ns.map PyData.int)) := by
  obtain ⟨a, ns, rfl, ha, na, l, b, z⟩ := h
  exact ⟨ns, z, .lst (off_at ha na) (trees_ints' ns), (ints_gd b l).up (by decide) hL⟩
end
theorem fr_y {x y z : PyData} (h : ybF y) : isFrameD (.tuple [x, y, z]) = false := by
  unfold ybF at h
  simp only [isFrameD, h, Bool.and_false, Bool.false_and]
theorem fr_nz {n : Nat} {x z : PyData} {ns : List Int} (h : nzF n z) (hl : ns.sum = (n : Int)) : isFrameD (.tuple [x, .list (ns.map .int), z]) = false := by
  unfold nzF at h
  rw [Bool.and_eq_false_iff] at h
  simp only [isFrameD]
  rcases h with h | h
  · rw [h]; simp
  · rw [sumD_ints, hl, h]; simp
theorem fr_x {x y z : PyData} (h : betwD 2 16 x = false) : isFrameD (.tuple [x, y, z]) = false := by simp only [isFrameD, h, Bool.false_and]
theorem nz_len {n : Nat} {ns : List Int} (h : ns.length ≠ n) : nzF n (.list (ns.map PyData.int)) := by
  unfold nzF
  rw [lenD_ints, decide_eq_false (fun z => h (by lia)), Bool.and_false]
theorem yb_has {ns : List Int} (h : ∃ x ∈ ns, x < 1 ∨ 6 < x) : ybF (.list (ns.map PyData.int)) := by
  refine row_yb ?_
  rw [row_ints, List.all_eq_false]
  obtain ⟨x, hx, hb⟩ := h
  refine ⟨x, hx, ?_⟩
  simp only [Bool.and_eq_true, decide_eq_true_eq]
  lia
theorem yb_len {y : PyData} (h : lenD y < 2 ∨ 4 < lenD y) : ybF y := by
  unfold ybF
  have : (decide (2 ≤ lenD y) && decide (lenD y ≤ 4)) = false := by
    rw [Bool.and_eq_false_iff, decide_eq_false_iff_not, decide_eq_false_iff_not]
    lia
  rw [this, Bool.and_false]
structure FI (pI wI : List Int) (n : Nat) : Prop where
  p1 : ∀ x ∈ pI, 1 ≤ x ∧ x ≤ 6
  l2 : 2 ≤ pI.length
  l4 : pI.length ≤ 4
  sm : pI.sum = (n : Int)
  wl : wI.length = n
  wr : ∀ x ∈ wI, -9 ≤ x ∧ x ≤ 9
  n2 : 2 ≤ n
  n24 : n ≤ 24
theorem FrOk.fi {b : Nat} {ps : List Nat} {ws : List Int} (ok : FrOk b ps ws) : FI (ps.map fun (p : Nat) => (p : Int)) ws ps.sum where
  p1 := fun x hx => by
    obtain ⟨p, hp, rfl⟩ := List.mem_map.mp hx
    have := ok.pr p hp
    lia
  l2 := by rw [List.length_map]; exact ok.l2
  l4 := by rw [List.length_map]; exact ok.l4
  sm := Ma.sum_cast ps
  wl := ok.wl
  wr := ok.wr
  n2 := ok.sum.1
  n24 := ok.sum.2
theorem sum_nn : ∀ {ns : List Int}, (∀ n ∈ ns, 0 ≤ n) → 0 ≤ ns.sum
  | [], _ => by simp
  | n :: r, h => by
    have h1 := h n List.mem_cons_self
    have h2 := sum_nn (ns := r) fun m hm => h m (List.mem_cons_of_mem _ hm)
    rw [List.sum_cons]
    lia
section
variable {X : Cx} {d : Addr} {ps : List (Option (PP [d]))} {e a b c : Expr} {es : List Expr} {pos : Pos}
theorem o_ix0 (i : Nat) {L : Nat} {φ : List Int → Prop} {j : _} {q1 : Pos} (h : PE X a (tVar i)) (h0 : ∀ ns, φ ns → 0 < ns.length) (hi : ps[i]? = some (some (ilP _ L φ)) := by rfl) : PO X (some (.Subscript a (.Constant (.int 0) j q1) pos)) (tPI d ps) := weakO (po_some (ixl h pe_int)) fun σ H Q ⟨c, q⟩ => by
  obtain ⟨v, e1, x, ns, rfl, hx, nx, l, bb, z⟩ := c.get hi
  obtain ⟨v, ev, n, rfl⟩ := at_all (xs := ns.map V.int) (i := 0) (Pr := fun v => ∃ n, v = V.int n) (by decide) (by rw [List.length_map]; have := h0 ns z; lia) fun x hx => by
    obtain ⟨n, hn, rfl⟩ := List.mem_map.mp hx
    exact ⟨n, rfl⟩
  exact ⟨_, e1, _, _, _, _, rfl, rfl, SqL.of hx, ev, n, rfl, q _⟩
end
end Hv
namespace Hv
open PySem L2
noncomputable abbrev NF (d : Addr) : PP [d] := trP _ 4 80000 nfF
noncomputable abbrev namB : List Str := ["frame", "cell", "base", "parts", "weights", "some", "at", "thing"]
noncomputable abbrev XB (P : Program) (w : World) (K : PySem.W.Frag) (mg : Str → Option Value) (base : Heap) (f : Addr) (cdv : Value) (A : Around) (outer : List Env) (s : Shared) (H : Hp) (E : XK) : Cx := Cx.nox (cxOf CX0 P w K mg base namB "_law_bad" (defScope sLawBad) f cdv A outer s H E)
noncomputable abbrev stB (i : Nat) : Stmt := (defBody sLawBad).getD i (.Pass ⟨0, 0, 0, 0⟩)
theorem scBad : FnScope namB ["frame", "cell"] (defScope sLawBad) := ⟨rfl, rfl, rfl, by decide +kernel, rfl, by decide +kernel, by decide +kernel⟩
noncomputable def asgR : Stmt → Expr
  | .Assign _ (.BinOp _ _ r _) _ => r
  | _ => .Constant .none 0 ⟨0, 0, 0, 0⟩
noncomputable def appA : Stmt → Expr
  | .Expr (.Call _ (e :: _) _ _) _ => e
  | _ => .Constant .none 0 ⟨0, 0, 0, 0⟩
noncomputable def lpB : Stmt → Stmt
  | .For _ _ (s :: _) _ _ => s
  | _ => .Pass ⟨0, 0, 0, 0⟩
noncomputable def itB : Stmt → Expr
  | .For _ e _ _ _ => e
  | _ => .Constant .none 0 ⟨0, 0, 0, 0⟩
noncomputable abbrev psB (d : Addr) (pI wI : List Int) (o6 o7 : Option (PP [d])) : List (Option (PP [d])) := [none, none, some (inP _ 2 16), some (ilP _ 4 (· = pI)), some (ilP _ 24 (· = wI)), none, o6, o7]
theorem drop_sum {pI wI : List Int} {n : Nat} (Fi : FI pI wI n) : 0 ≤ (pI.drop 1).sum ∧ (pI.drop 1).sum ≤ 24 := by
  have h1 : ∀ x ∈ pI.drop 1, 1 ≤ x ∧ x ≤ 6 := fun x hx => Fi.p1 x (List.mem_of_mem_drop hx)
  refine ⟨sum_nn fun x hx => by have := h1 x hx; lia, ?_⟩
  have h2 := sum_le (ns := pI.drop 1) (B := 6) fun x hx => (h1 x hx).2
  have h3 := Fi.l4
  rw [List.length_drop] at h2
  lia
section
variable {X : Cx} {d : Addr} {ps : List (Option (PP [d]))} {e a b c : Expr} {es : List Expr} {pos : Pos}
theorem e_sumI {L : Nat} {φ : List Int → Prop} {lo hi : Int} {q1 : Pos} (hc : X.calm = true) (hg : Gl X "sum") (hm : X.mg "sum" = none) (ha : ET X d ps a (ilP _ L φ)) (h : ∀ ns, φ ns → lo ≤ ns.sum ∧ ns.sum ≤ hi) (hs : starEach [a] X.env = (false, eval a X.env) :: starEach [] X.env := by exact star_cons rfl) (hp1 : (backTo pos (starEach [] X.env)).any (·.1) = false := by rfl) : ET X d ps (.Call (.Name "sum" q1) [a] [] pos) (inP _ lo hi) :=
  weakT (pe_callB (call_sumA hc) hg hm boot_sum (pa_cons ha pa_nil hs) (he := hs) (hpl := hp1)) fun σ H Q c k q => by
    refine ⟨c, k, fun v1 H1 D1 k1 p1 => ?_⟩
    obtain ⟨x, ns, rfl, hx, nx, a1, a2, hns⟩ := p1
    exact ⟨x, ns, rfl, SqL.of hx, q _ _ D1 k1 ⟨_, rfl, (h ns hns).1, (h ns hns).2⟩⟩
theorem txt_gd : ∀ k : Fin 17, (PyData.showable (PyData.str (Mt.txt ((k : Nat) : Int))) && PyData.leavesShort 40 (PyData.str (Mt.txt ((k : Nat) : Int))) && decide (PyData.depth (PyData.str (Mt.txt ((k : Nat) : Int))) ≤ 1) && decide (PyData.weight (PyData.str (Mt.txt ((k : Nat) : Int))) ≤ 100)) = true := by decide +kernel
theorem e_strI {q1 : Pos} (hg : Gl X "str") (hm : X.mg "str" = none) (ha : ET X d ps a (inP _ 2 16)) (hs : starEach [a] X.env = (false, eval a X.env) :: starEach [] X.env := by exact star_cons rfl) (hp1 : (backTo pos (starEach [] X.env)).any (·.1) = false := by rfl) : ET X d ps (.Call (.Name "str" q1) [a] [] pos) (odP _ 2 16) :=
  weakT (pe_callTy call_str_int hg hm boot_str (pa_cons ha pa_nil hs) (he := hs) (hpl := hp1)) fun σ H Q c k q => by
    refine ⟨c, k, fun v1 H1 D1 k1 p1 => ?_⟩
    obtain ⟨i, rfl, i1, i2⟩ := p1
    refine ⟨i, rfl, small_log (by lia), q _ _ D1 k1 ⟨⟨.str (Mt.txt i), .str _, ?_⟩, rfl⟩⟩
    have := txt_gd ⟨i.toNat, by lia⟩
    have e : ((i.toNat : Nat) : Int) = i := by lia
    simp only [e, Bool.and_eq_true, decide_eq_true_eq] at this
    exact ⟨this.1.1.1, this.1.1.2, this.1.2, this.2⟩
theorem pe_some {pp : (d : Addr) → List (Option (PP [d]))} {R : (d : Addr) → PP [d]} (h : ∀ d, ET X d (pp d) e (R d)) : PE X e (fun σ H Q => ∃ d, tT d (pp d) (R d) σ H Q) := fun pins s σ H Q I ⟨d, q⟩ => h d pins s σ H Q I q
end
section
variable {P : Program} {w : World} {K : PySem.W.Frag} {mg : Str → Option Value} {base : Heap} {f : Addr} {cdv : Value} {A : Around} {outer : List Env} {s : Shared} {H : Hp} {E : XK} {d : Addr} {pI wI : List Int} {n : Nat} {o6 o7 : Option (PP [d])}
theorem b_0 (T : Txt mg) (hS : mg "str" = none) (Fi : FI pI wI n) : ET (XB P w K mg base f cdv A outer s H E) d (psB d pI wI o6 o7) (asgVal (stB 1)) (lsP 4 4 (NF d)) := by
  refine e_lst (It := NF d) (m := 4) ?_
  refine a_cons (It := NF d) (m := 3) ?_ ?_
  · exact e_nonF
  refine a_cons (It := NF d) (m := 2) ?_ ?_
  · exact e_up (e_var 2 (pv 2)) in_nf
  refine a_cons (It := NF d) (m := 1) ?_ ?_
  · refine e_tupX (m := 2) ?_
    refine a_cons (It := thP _ 3 19000) (m := 1) ?_ ?_
    · exact e_up (e_var 2 (pv 2)) in_th
    refine a_cons (It := thP _ 3 19000) (m := 0) ?_ ?_
    · exact e_up (e_var 3 (pv 3)) il_th
    exact a_nil
  refine a_cons (It := NF d) (m := 0) ?_ ?_
  · refine e_up (P := lsP 3 3 (thP _ 3 19000)) ?_ ls_nf
    refine e_lst (It := thP _ 3 19000) (m := 3) ?_
    refine a_cons (It := thP _ 3 19000) (m := 2) ?_ ?_
    · exact e_up (e_var 2 (pv 2)) in_th
    refine a_cons (It := thP _ 3 19000) (m := 1) ?_ ?_
    · exact e_up (e_var 3 (pv 3)) il_th
    refine a_cons (It := thP _ 3 19000) (m := 0) ?_ ?_
    · exact e_up (e_var 4 (pv 4)) il_th
    exact a_nil
  exact a_nil
theorem b_1 (T : Txt mg) (hS : mg "str" = none) (Fi : FI pI wI n) : ET (XB P w K mg base f cdv A outer s H E) d (psB d pI wI o6 o7) (asgR (stB 2)) (lsP 2 2 (NF d)) := by
  refine e_lst (It := NF d) (m := 2) ?_
  refine a_cons (It := NF d) (m := 1) ?_ ?_
  · refine e_tupX (m := 4) ?_
    refine a_cons (It := thP _ 3 19000) (m := 3) ?_ ?_
    · exact e_up (e_var 2 (pv 2)) in_th
    refine a_cons (It := thP _ 3 19000) (m := 2) ?_ ?_
    · exact e_up (e_var 3 (pv 3)) il_th
    refine a_cons (It := thP _ 3 19000) (m := 1) ?_ ?_
    · exact e_up (e_var 4 (pv 4)) il_th
    refine a_cons (It := thP _ 3 19000) (m := 0) ?_ ?_
    · exact e_up e_int in_th
    exact a_nil
  refine a_cons (It := NF d) (m := 0) ?_ ?_
  · refine e_tup3 (A := odP _ 2 16) (B := ilP _ 4 (· = pI)) (C := ilP _ 24 (· = wI)) (e_up e_int (in_od (by decide) (by decide) (by decide))) (e_var 3 (pv 3)) (e_var 4 (pv 4)) fun H v1 v2 v3 h1 h2 h3 => ?_
    obtain ⟨⟨dx, tx, gx⟩, bx⟩ := h1
    obtain ⟨ns, rfl, t2, g2⟩ := il_T h2 (by decide)
    obtain ⟨ms, rfl, t3, g3⟩ := il_T h3 (by decide)
    exact ⟨_, _, _, tx, t2, t3, gx.up (by decide) (by decide), g2, g3, fr_x (by rw [← tree_betw tx]; exact bx)⟩
  exact a_nil
theorem b_2 (T : Txt mg) (hS : mg "str" = none) (Fi : FI pI wI n) : ET (XB P w K mg base f cdv A outer s H E) d (psB d pI wI o6 o7) (asgR (stB 3)) (lsP 2 2 (NF d)) := by
  refine e_lst (It := NF d) (m := 2) ?_
  refine a_cons (It := NF d) (m := 1) ?_ ?_
  · refine e_tup3 (A := odP _ 2 16) (B := ilP _ 4 (· = pI)) (C := ilP _ 24 (· = wI)) (e_up e_int (in_od (by decide) (by decide) (by decide))) (e_var 3 (pv 3)) (e_var 4 (pv 4)) fun H v1 v2 v3 h1 h2 h3 => ?_
    obtain ⟨⟨dx, tx, gx⟩, bx⟩ := h1
    obtain ⟨ns, rfl, t2, g2⟩ := il_T h2 (by decide)
    obtain ⟨ms, rfl, t3, g3⟩ := il_T h3 (by decide)
    exact ⟨_, _, _, tx, t2, t3, gx.up (by decide) (by decide), g2, g3, fr_x (by rw [← tree_betw tx]; exact bx)⟩
  refine a_cons (It := NF d) (m := 0) ?_ ?_
  · refine e_tup3 (A := odP _ 2 16) (B := ilP _ 4 (· = pI)) (C := ilP _ 24 (· = wI)) e_blO (e_var 3 (pv 3)) (e_var 4 (pv 4)) fun H v1 v2 v3 h1 h2 h3 => ?_
    obtain ⟨⟨dx, tx, gx⟩, bx⟩ := h1
    obtain ⟨ns, rfl, t2, g2⟩ := il_T h2 (by decide)
    obtain ⟨ms, rfl, t3, g3⟩ := il_T h3 (by decide)
    exact ⟨_, _, _, tx, t2, t3, gx.up (by decide) (by decide), g2, g3, fr_x (by rw [← tree_betw tx]; exact bx)⟩
  exact a_nil
theorem b_3 (T : Txt mg) (hS : mg "str" = none) (Fi : FI pI wI n) : ET (XB P w K mg base f cdv A outer s H E) d (psB d pI wI o6 o7) (asgR (stB 4)) (lsP 2 2 (NF d)) := by
  refine e_lst (It := NF d) (m := 2) ?_
  refine a_cons (It := NF d) (m := 1) ?_ ?_
  · refine e_tup3 (A := odP _ 2 16) (B := ilP _ 4 (· = pI)) (C := ilP _ 24 (· = wI)) (e_strI (by rfl) hS (e_var 2 (pv 2))) (e_var 3 (pv 3)) (e_var 4 (pv 4)) fun H v1 v2 v3 h1 h2 h3 => ?_
    obtain ⟨⟨dx, tx, gx⟩, bx⟩ := h1
    obtain ⟨ns, rfl, t2, g2⟩ := il_T h2 (by decide)
    obtain ⟨ms, rfl, t3, g3⟩ := il_T h3 (by decide)
    exact ⟨_, _, _, tx, t2, t3, gx.up (by decide) (by decide), g2, g3, fr_x (by rw [← tree_betw tx]; exact bx)⟩
  refine a_cons (It := NF d) (m := 0) ?_ ?_
  · refine e_tup3 (A := odP _ 2 16) (B := ilP _ 4 (· = pI)) (C := ilP _ 24 (· = wI)) e_nonO (e_var 3 (pv 3)) (e_var 4 (pv 4)) fun H v1 v2 v3 h1 h2 h3 => ?_
    obtain ⟨⟨dx, tx, gx⟩, bx⟩ := h1
    obtain ⟨ns, rfl, t2, g2⟩ := il_T h2 (by decide)
    obtain ⟨ms, rfl, t3, g3⟩ := il_T h3 (by decide)
    exact ⟨_, _, _, tx, t2, t3, gx.up (by decide) (by decide), g2, g3, fr_x (by rw [← tree_betw tx]; exact bx)⟩
  exact a_nil
theorem b_4 (T : Txt mg) (hS : mg "str" = none) (Fi : FI pI wI n) : ET (XB P w K mg base f cdv A outer s H E) d (psB d pI wI o6 o7) (asgR (stB 5)) (lsP 2 2 (NF d)) := by
  refine e_lst (It := NF d) (m := 2) ?_
  refine a_cons (It := NF d) (m := 1) ?_ ?_
  · refine e_tup3 (A := inP _ 2 16) (B := trP _ 3 7300 ybF) (C := ilP _ 24 (· = wI)) (e_var 2 (pv 2)) (e_up (e_tupleL (by rfl) T.tuple (e_var 3 (pv 3))) (tr_tr (by decide) (by decide) fun _ h => row_yb (isL_row h))) (e_var 4 (pv 4)) fun H v1 v2 v3 h1 h2 h3 => ?_
    obtain ⟨i, t1, g1⟩ := in_T h1 (by decide) (by decide)
    obtain ⟨y, t2, g2, hy⟩ := h2
    obtain ⟨ms, rfl, t3, g3⟩ := il_T h3 (by decide)
    exact ⟨_, _, _, t1, t2, t3, g1, g2.up (by decide) (by decide), g3, fr_y hy⟩
  refine a_cons (It := NF d) (m := 0) ?_ ?_
  · refine e_tup3 (A := inP _ 2 16) (B := trP _ 3 7300 ybF) (C := ilP _ 24 (· = wI)) (e_var 2 (pv 2)) (e_up e_nonL (tr_tr (by decide) (by decide) fun _ h => row_yb (isL_row h))) (e_var 4 (pv 4)) fun H v1 v2 v3 h1 h2 h3 => ?_
    obtain ⟨i, t1, g1⟩ := in_T h1 (by decide) (by decide)
    obtain ⟨y, t2, g2, hy⟩ := h2
    obtain ⟨ms, rfl, t3, g3⟩ := il_T h3 (by decide)
    exact ⟨_, _, _, t1, t2, t3, g1, g2.up (by decide) (by decide), g3, fr_y hy⟩
  exact a_nil
theorem b_5 (T : Txt mg) (hS : mg "str" = none) (Fi : FI pI wI n) : ET (XB P w K mg base f cdv A outer s H E) d (psB d pI wI o6 o7) (asgR (stB 6)) (lsP 2 2 (NF d)) := by
  refine e_lst (It := NF d) (m := 2) ?_
  refine a_cons (It := NF d) (m := 1) ?_ ?_
  · refine e_tup3 (A := inP _ 2 16) (B := ilP _ 4 (· = pI)) (C := trP _ 3 7300 (nzF n)) (e_var 2 (pv 2)) (e_var 3 (pv 3)) (e_up (e_tupleL (by rfl) T.tuple (e_var 4 (pv 4))) (tr_tr (by decide) (by decide) fun _ h => row_nz (isL_row h))) fun H v1 v2 v3 h1 h2 h3 => ?_
    obtain ⟨i, t1, g1⟩ := in_T h1 (by decide) (by decide)
    obtain ⟨ns, rfl, t2, g2⟩ := il_T h2 (by decide)
    obtain ⟨y, t3, g3, hy⟩ := h3
    exact ⟨_, _, _, t1, t2, t3, g1, g2, g3.up (by decide) (by decide), fr_nz hy Fi.sm⟩
  refine a_cons (It := NF d) (m := 0) ?_ ?_
  · refine e_tup3 (A := inP _ 2 16) (B := ilP _ 4 (· = pI)) (C := trP _ 3 7300 (nzF n)) (e_var 2 (pv 2)) (e_var 3 (pv 3)) (e_up e_nonL (tr_tr (by decide) (by decide) fun _ h => row_nz (isL_row h))) fun H v1 v2 v3 h1 h2 h3 => ?_
    obtain ⟨i, t1, g1⟩ := in_T h1 (by decide) (by decide)
    obtain ⟨ns, rfl, t2, g2⟩ := il_T h2 (by decide)
    obtain ⟨y, t3, g3, hy⟩ := h3
    exact ⟨_, _, _, t1, t2, t3, g1, g2, g3.up (by decide) (by decide), fr_nz hy Fi.sm⟩
  exact a_nil
theorem b_6 (T : Txt mg) (hS : mg "str" = none) (Fi : FI pI wI n) : ET (XB P w K mg base f cdv A outer s H E) d (psB d pI wI o6 o7) (asgR (stB 8)) (lsP 2 2 (NF d)) := by
  refine e_lst (It := NF d) (m := 2) ?_
  refine a_cons (It := NF d) (m := 1) ?_ ?_
  · refine e_tup3 (A := inP _ 2 16) (B := lsP 1 1 (thP _ 0 90)) (C := thP _ 3 26000) (e_var 2 (pv 2)) (e_lst (It := thP _ 0 90) (m := 1) (a_cons (e_up e_int in_th0) a_nil)) (e_up (e_lst (It := thP _ 0 90) (m := 1) (a_cons (e_up e_int in_th0) a_nil)) ls_th) fun H v1 v2 v3 h1 h2 h3 => ?_
    obtain ⟨i, t1, g1⟩ := in_T h1 (by decide) (by decide)
    obtain ⟨a, xs, rfl, ha, na, l1, l2, it⟩ := h2
    obtain ⟨dl, ts, a1, a2, a3, a4⟩ := trees_of it
    obtain ⟨y, t3, g3⟩ := h3
    have hl : dl.length = 1 := by rw [← trees_len ts]; lia
    refine ⟨_, .list dl, _, t1, .lst (off_at ha na) ts, t3, g1, ⟨?_, ?_, ?_, ?_⟩, g3, fr_y (yb_len (.inl ?_))⟩
    · simpa only [PyData.showable] using a1
    · simpa only [PyData.leavesShort] using a2
    · simp only [PyData.depth]; lia
    · simp only [PyData.weight]; lia
    · show dl.length < 2
      lia
  refine a_cons (It := NF d) (m := 0) ?_ ?_
  · refine e_tup3 (A := inP _ 2 16) (B := lsP 5 5 (thP _ 0 90)) (C := thP _ 3 26000) (e_var 2 (pv 2)) (e_rep3 (l1 := 1) (h1 := 1) (n := 5) (e_lst (It := thP _ 0 90) (a_cons (e_up e_int in_th0) a_nil)) pe_int) (e_up (e_rep3 (l1 := 1) (h1 := 1) (n := 5) (e_lst (It := thP _ 0 90) (a_cons (e_up e_int in_th0) a_nil)) pe_int) ls_th) fun H v1 v2 v3 h1 h2 h3 => ?_
    obtain ⟨i, t1, g1⟩ := in_T h1 (by decide) (by decide)
    obtain ⟨a, xs, rfl, ha, na, l1, l2, it⟩ := h2
    obtain ⟨dl, ts, a1, a2, a3, a4⟩ := trees_of it
    obtain ⟨y, t3, g3⟩ := h3
    have hl : dl.length = 5 := by rw [← trees_len ts]; lia
    refine ⟨_, .list dl, _, t1, .lst (off_at ha na) ts, t3, g1, ⟨?_, ?_, ?_, ?_⟩, g3, fr_y (yb_len (.inr ?_))⟩
    · simpa only [PyData.showable] using a1
    · simpa only [PyData.leavesShort] using a2
    · simp only [PyData.depth]; lia
    · simp only [PyData.weight]; lia
    · show 4 < dl.length
      lia
  exact a_nil
theorem b_7 (T : Txt mg) (hS : mg "str" = none) (Fi : FI pI wI n) : ET (XB P w K mg base f cdv A outer s H E) d (psB d pI wI o6 o7) (asgR (stB 9)) (lsP 2 2 (NF d)) := by
  refine e_lst (It := NF d) (m := 2) ?_
  refine a_cons (It := NF d) (m := 1) ?_ ?_
  · refine e_tup3 (A := inP _ 2 16) (B := ilP _ 4 (· = pI)) (C := trP _ 3 7300 (nzF n)) (e_var 2 (pv 2)) (e_var 3 (pv 3)) (e_up (e_catI (L := 24) (M := 1) (e_var 4 (pv 4)) (e_oneI e_int)) (il_tr fun ns h => nz_len (by obtain ⟨xs, ys, rfl, ⟨i, rfl, i0, i1⟩, rfl⟩ := h; have := Fi.wl; rw [List.length_append]; simp; lia))) fun H v1 v2 v3 h1 h2 h3 => ?_
    obtain ⟨i, t1, g1⟩ := in_T h1 (by decide) (by decide)
    obtain ⟨ns, rfl, t2, g2⟩ := il_T h2 (by decide)
    obtain ⟨y, t3, g3, hy⟩ := h3
    exact ⟨_, _, _, t1, t2, t3, g1, g2, g3.up (by decide) (by decide), fr_nz hy Fi.sm⟩
  refine a_cons (It := NF d) (m := 0) ?_ ?_
  · refine e_tup3 (A := inP _ 2 16) (B := ilP _ 4 (· = pI)) (C := trP _ 3 7300 (nzF n)) (e_var 2 (pv 2)) (e_var 3 (pv 3)) (e_up (e_drop1 (L := 24) (e_var 4 (pv 4))) (il_tr fun ns h => nz_len (by obtain ⟨xs, rfl, rfl⟩ := h; have := Fi.wl; have := Fi.n2; rw [List.length_drop]; lia))) fun H v1 v2 v3 h1 h2 h3 => ?_
    obtain ⟨i, t1, g1⟩ := in_T h1 (by decide) (by decide)
    obtain ⟨ns, rfl, t2, g2⟩ := il_T h2 (by decide)
    obtain ⟨y, t3, g3, hy⟩ := h3
    exact ⟨_, _, _, t1, t2, t3, g1, g2, g3.up (by decide) (by decide), fr_nz hy Fi.sm⟩
  exact a_nil
theorem b_8 (T : Txt mg) (hS : mg "str" = none) (Fi : FI pI wI n) : ET (XB P w K mg base f cdv A outer s H E) d (psB d pI wI o6 o7) (asgR (stB 10)) (lsP 2 2 (NF d)) := by
  refine e_lst (It := NF d) (m := 2) ?_
  refine a_cons (It := NF d) (m := 1) ?_ ?_
  · refine e_tup3 (A := inP _ 2 16) (B := ilP _ 5 (fun ns => ∃ xs ys, xs = pI ∧ (∃ i, ys = [i] ∧ 0 ≤ i ∧ i ≤ 0) ∧ ns = xs ++ ys)) (C := thP _ 3 26000) (e_var 2 (pv 2)) (e_catI (L := 4) (M := 1) (e_var 3 (pv 3)) (e_oneI e_int)) (e_up (e_var 4 (pv 4)) il_th) fun H v1 v2 v3 h1 h2 h3 => ?_
    obtain ⟨i, t1, g1⟩ := in_T h1 (by decide) (by decide)
    obtain ⟨ns, hy, t2, g2⟩ := il_T h2 (by decide)
    obtain ⟨y, t3, g3⟩ := h3
    exact ⟨_, _, _, t1, t2, t3, g1, g2, g3, fr_y (yb_has (by obtain ⟨xs, ys, _, ⟨i, rfl, i0, i1⟩, rfl⟩ := hy; exact ⟨i, by simp, by lia⟩))⟩
  refine a_cons (It := NF d) (m := 0) ?_ ?_
  · refine e_tup3 (A := inP _ 2 16) (B := ilP _ 2 (fun ns => ∃ i j, ns = [i, j] ∧ (7 ≤ i ∧ i ≤ 7) ∧ 1 ≤ j ∧ j ≤ 1)) (C := thP _ 3 26000) (e_var 2 (pv 2)) (e_twoI e_int e_int) (e_up (e_rep3 (l1 := 1) (h1 := 1) (n := 8) (e_lst (It := thP _ 0 90) (a_cons (e_up e_int in_th0) a_nil)) pe_int) ls_th) fun H v1 v2 v3 h1 h2 h3 => ?_
    obtain ⟨i, t1, g1⟩ := in_T h1 (by decide) (by decide)
    obtain ⟨ns, hy, t2, g2⟩ := il_T h2 (by decide)
    obtain ⟨y, t3, g3⟩ := h3
    exact ⟨_, _, _, t1, t2, t3, g1, g2, g3, fr_y (yb_has (by obtain ⟨i, j, rfl, hi, hj⟩ := hy; exact ⟨i, by simp, by lia⟩))⟩
  exact a_nil
theorem b_a1 (T : Txt mg) (hS : mg "str" = none) (Fi : FI pI wI n) : ET (XB P w K mg base f cdv A outer s H E) d (psB d pI wI o6 o7) (appA (stB 7)) (NF d) := by
  refine e_tup3 (A := inP _ 2 16) (B := lsP 0 0 (thP _ 0 90)) (C := thP _ 3 26000) (e_var 2 (pv 2)) (e_lst (It := thP _ 0 90) (m := 0) a_nil) (e_up (e_lst (It := thP _ 0 90) (m := 0) a_nil) ls_th) fun H v1 v2 v3 h1 h2 h3 => ?_
  obtain ⟨i, t1, g1⟩ := in_T h1 (by decide) (by decide)
  obtain ⟨a, xs, rfl, ha, na, l1, l2, it⟩ := h2
  obtain ⟨dl, ts, a1, a2, a3, a4⟩ := trees_of it
  obtain ⟨y, t3, g3⟩ := h3
  have hl : dl.length = 0 := by rw [← trees_len ts]; lia
  refine ⟨_, .list dl, _, t1, .lst (off_at ha na) ts, t3, g1, ⟨?_, ?_, ?_, ?_⟩, g3, fr_y (yb_len (.inl ?_))⟩
  · simpa only [PyData.showable] using a1
  · simpa only [PyData.leavesShort] using a2
  · simp only [PyData.depth]; lia
  · simp only [PyData.weight]; lia
  · show dl.length < 2
    lia
theorem b_a2 (T : Txt mg) (hS : mg "str" = none) (Fi : FI pI wI n) : ET (XB P w K mg base f cdv A outer s H E) d (psB d pI wI o6 o7) (appA (stB 11)) (NF d) := by
  refine e_tup3 (A := inP _ 2 16) (B := ilP _ 5 (fun ns => ∃ xs ys, (∃ i, xs = [i] ∧ 7 ≤ i ∧ i ≤ 7) ∧ (∃ zs, zs = pI ∧ ys = zs.drop 1) ∧ ns = xs ++ ys)) (C := thP _ 3 26000) (e_var 2 (pv 2)) (e_catI (L := 1) (M := 4) (e_oneI e_int) (e_drop1 (L := 4) (e_var 3 (pv 3)))) (e_up (e_rep (l1 := 1) (h1 := 1) (j := 31) (e_lst (It := thP _ 0 90) (a_cons (e_up e_int in_th0) a_nil)) (e_up (e_add (l1 := 7) (h1 := 7) (l2 := 0) (h2 := 24) e_int (e_sumI rfl (by rfl) T.sum (e_drop1 (L := 4) (e_var 3 (pv 3))) (fun ns h => by obtain ⟨xs, rfl, rfl⟩ := h; exact drop_sum Fi))) in_in)) ls_th) fun H v1 v2 v3 h1 h2 h3 => ?_
  obtain ⟨i, t1, g1⟩ := in_T h1 (by decide) (by decide)
  obtain ⟨ns, hy, t2, g2⟩ := il_T h2 (by decide)
  obtain ⟨y, t3, g3⟩ := h3
  exact ⟨_, _, _, t1, t2, t3, g1, g2, g3, fr_y (yb_has (by obtain ⟨xs, ys, ⟨i, rfl, i0, i1⟩, _, rfl⟩ := hy; exact ⟨i, by simp, by lia⟩))⟩
theorem b_a3 (T : Txt mg) (hS : mg "str" = none) (Fi : FI pI wI n) : ET (XB P w K mg base f cdv A outer s H E) d (psB d pI wI o6 o7) (appA (stB 12)) (NF d) := by
  refine e_tup3 (A := inP _ 2 16) (B := ilP _ 5 (fun ns => ∃ xs ys, (∃ zs, zs = pI ∧ xs = zs.drop 1) ∧ (∃ i, ys = [i] ∧ 0 ≤ i ∧ i ≤ 0) ∧ ns = xs ++ ys)) (C := thP _ 3 26000) (e_var 2 (pv 2)) (e_catI (L := 4) (M := 1) (e_drop1 (L := 4) (e_var 3 (pv 3))) (e_oneI e_int)) (e_up (e_sliceI (L := 24) (e_var 4 (pv 4)) (o_ix0 (φ := (· = pI)) (L := 4) 3 (pv 3) (fun ns h => by subst h; have := Fi.l2; lia)) o_none) il_th) fun H v1 v2 v3 h1 h2 h3 => ?_
  obtain ⟨i, t1, g1⟩ := in_T h1 (by decide) (by decide)
  obtain ⟨ns, hy, t2, g2⟩ := il_T h2 (by decide)
  obtain ⟨y, t3, g3⟩ := h3
  exact ⟨_, _, _, t1, t2, t3, g1, g2, g3, fr_y (yb_has (by obtain ⟨xs, ys, _, ⟨i, rfl, i0, i1⟩, rfl⟩ := hy; exact ⟨i, by simp, by lia⟩))⟩
theorem b_t1 (T : Txt mg) (hS : mg "str" = none) (Fi : FI pI wI n) : ET (XB P w K mg base f cdv A outer s H E) d (psB d pI wI (some (inP _ 0 3)) (some (odP _ 1 6))) (appA (lpB (stB 14))) (NF d) := by
  refine e_tup3 (A := inP _ 2 16) (B := hsP _ 9 1 6) (C := ilP _ 24 (· = wI)) (e_var 2 (pv 2)) (e_has3 (L := 4) (M := 4) (e_up (e_sliceI (e_var 3 (pv 3)) o_none (o_var 6 (pv 6))) il_ls) (e_var 7 (pv 7)) (e_up (e_sliceI (e_var 3 (pv 3)) (o_add 6 (pv 6) pe_int) o_none) il_ls)) (e_var 4 (pv 4)) fun H v1 v2 v3 h1 h2 h3 => ?_
  obtain ⟨i, t1, g1⟩ := in_T h1 (by decide) (by decide)
  obtain ⟨y, t2, g2, hy⟩ := hs_tr (n' := 3) (w' := 7300) (ψ := ybF) (fun _ h => row_yb h) (by decide) (by decide) _ _ h2
  obtain ⟨ms, rfl, t3, g3⟩ := il_T h3 (by decide)
  exact ⟨_, _, _, t1, t2, t3, g1, g2.up (by decide) (by decide), g3, fr_y hy⟩
theorem b_t2 (T : Txt mg) (hS : mg "str" = none) (Fi : FI pI wI n) : ET (XB P w K mg base f cdv A outer s H E) d (psB d pI wI (some (inP _ 0 23)) (some (odP _ (-9) 9))) (appA (lpB (stB 16))) (NF d) := by
  refine e_tup3 (A := inP _ 2 16) (B := ilP _ 4 (· = pI)) (C := hsP _ 49 (-9) 9) (e_var 2 (pv 2)) (e_var 3 (pv 3)) (e_has3 (L := 24) (M := 24) (e_up (e_sliceI (e_var 4 (pv 4)) o_none (o_var 6 (pv 6))) il_ls) (e_var 7 (pv 7)) (e_up (e_sliceI (e_var 4 (pv 4)) (o_add 6 (pv 6) pe_int) o_none) il_ls)) fun H v1 v2 v3 h1 h2 h3 => ?_
  obtain ⟨i, t1, g1⟩ := in_T h1 (by decide) (by decide)
  obtain ⟨ns, rfl, t2, g2⟩ := il_T h2 (by decide)
  obtain ⟨y, t3, g3, hy⟩ := hs_tr (n' := 3) (w' := 7300) (ψ := nzF n) (fun _ h => row_nz h) (by decide) (by decide) _ _ h3
  exact ⟨_, _, _, t1, t2, t3, g1, g2, g3.up (by decide) (by decide), fr_nz hy Fi.sm⟩
theorem b_l1 (T : Txt mg) (hS : mg "str" = none) (Fi : FI pI wI n) : ET (XB P w K mg base f cdv A outer s H E) d (psB d pI wI o6 o7) (itB (stB 14)) (lsP 7 7 (odP _ 1 6)) := by
  refine e_lst (It := odP _ 1 6) (m := 7) ?_
  refine a_cons (It := odP _ 1 6) (m := 6) ?_ ?_
  · exact e_up e_int (in_od (by decide) (by decide) (by decide))
  refine a_cons (It := odP _ 1 6) (m := 5) ?_ ?_
  · exact e_up e_neg (in_od (by decide) (by decide) (by decide))
  refine a_cons (It := odP _ 1 6) (m := 4) ?_ ?_
  · exact e_up e_int (in_od (by decide) (by decide) (by decide))
  refine a_cons (It := odP _ 1 6) (m := 3) ?_ ?_
  · exact e_blO
  refine a_cons (It := odP _ 1 6) (m := 2) ?_ ?_
  · exact e_nonO
  refine a_cons (It := odP _ 1 6) (m := 1) ?_ ?_
  · exact e_strO gd_s1
  refine a_cons (It := odP _ 1 6) (m := 0) ?_ ?_
  · refine e_up (P := lsP 1 1 (thP _ 0 90)) ?_ ls_od
    refine e_lst (It := thP _ 0 90) (m := 1) ?_
    refine a_cons (It := thP _ 0 90) (m := 0) ?_ ?_
    · exact e_up e_int in_th0
    exact a_nil
  exact a_nil
theorem b_l2 (T : Txt mg) (hS : mg "str" = none) (Fi : FI pI wI n) : ET (XB P w K mg base f cdv A outer s H E) d (psB d pI wI o6 o7) (itB (stB 16)) (lsP 7 7 (odP _ (-9) 9)) := by
  refine e_lst (It := odP _ (-9) 9) (m := 7) ?_
  refine a_cons (It := odP _ (-9) 9) (m := 6) ?_ ?_
  · exact e_up e_int (in_od (by decide) (by decide) (by decide))
  refine a_cons (It := odP _ (-9) 9) (m := 5) ?_ ?_
  · exact e_up e_neg (in_od (by decide) (by decide) (by decide))
  refine a_cons (It := odP _ (-9) 9) (m := 4) ?_ ?_
  · exact e_blO
  refine a_cons (It := odP _ (-9) 9) (m := 3) ?_ ?_
  · exact e_nonO
  refine a_cons (It := odP _ (-9) 9) (m := 2) ?_ ?_
  · exact e_strO gd_s1
  refine a_cons (It := odP _ (-9) 9) (m := 1) ?_ ?_
  · refine e_up (P := lsP 1 1 (thP _ 0 90)) ?_ ls_od
    refine e_lst (It := thP _ 0 90) (m := 1) ?_
    refine a_cons (It := thP _ 0 90) (m := 0) ?_ ?_
    · exact e_up e_int in_th0
    exact a_nil
  refine a_cons (It := odP _ (-9) 9) (m := 0) ?_ ?_
  · exact e_up e_pow25 (in_od (by decide) (by decide) (by decide))
  exact a_nil
end
end Hv
namespace Hv
open PySem L2
structure BW (H0 H : Hp) (l : Addr) (n : Nat) : Prop where
  s : Same H0 H
  nl : H0 l = none
  ex : ∃ xs, H l = some (.lst xs) ∧ xs.length = n ∧ ∀ x ∈ xs, (NF l).holds H x
theorem off_new {H : Hp} {l : Addr} {o : HO} (h : H l = none) : Same H (Off [l] (upd H l o)) := fun y o' e => by
  have n : y ≠ l := fun z => by rw [z, h] at e; cases e
  exact off_at (by rw [upd_ne n]; exact e) (by simpa using n)
theorem off_upd {H : Hp} {l : Addr} {o : HO} : Same (Off [l] H) (Off [l] (upd H l o)) := off_kp (fun y o' e n => by rw [upd_ne (fun z => n (by rw [z]; simp))]; exact e)
theorem bw_new {H0 H : Hp} {l : Addr} {xs : List V} {n : Nat} (s : Same H0 H) (hl : H l = none) (hn : xs.length = n) (h : ∀ x ∈ xs, ∃ dd, Tree H x dd ∧ GD 4 80000 dd ∧ nfF dd) : BW H0 (upd H l (.lst xs)) l n :=
  ⟨s.trans (same_upd hl), s.free hl, xs, upd_same, hn, fun x hx => let ⟨dd, t, g, q⟩ := h x hx; ⟨dd, t.keep (off_new hl), g, q⟩⟩
theorem nf_tree {H : Hp} {l : Addr} {x : V} (h : (NF l).holds H x) : ∃ dd, Tree H x dd ∧ GD 4 80000 dd ∧ nfF dd := let ⟨dd, t, g, q⟩ := h; ⟨dd, t.keep off_sub, g, q⟩
theorem BW.keep {H0 H H' : Hp} {l : Addr} {n : Nat} (W : BW H0 H l n) (s : Same H H') : BW H0 H' l n := let ⟨xs, e, hn, h⟩ := W.ex; ⟨W.s.trans s, W.nl, xs, s _ _ e, hn, fun x hx => (NF l).per _ _ _ s (h x hx)⟩
theorem BW.app {H0 H : Hp} {l : Addr} {n : Nat} {xs : List V} {v : V} (W : BW H0 H l n) (e : H l = some (.lst xs)) (hv : (NF l).holds H v) : BW H0 (upd H l (.lst (xs ++ [v]))) l (n + 1) := by
  obtain ⟨ys, e', hn, h⟩ := W.ex
  rw [e] at e'
  cases e'
  refine ⟨same_upd2 W.s W.nl, W.nl, _, upd_same, by simp [hn], fun x hx => ?_⟩
  have mv : ∀ {x : V}, (NF l).holds H x → (NF l).holds (upd H l (.lst (xs ++ [v]))) x := fun ⟨dd, t, g, q⟩ => ⟨dd, t.keep off_upd, g, q⟩
  rcases List.mem_append.mp hx with hx | hx
  · exact mv (h x hx)
  · rw [List.mem_singleton.mp hx]; exact mv hv
theorem cpB {d a c : Addr} {b : Int} {pI wI : List Int} {H : Hp} {x0 x1 x5 x6 x7 : Option V} {o6 o7 : Option (PP [d])} (hb : 2 ≤ b ∧ b ≤ 16) (ha : H a = some (.lst (pI.map V.int))) (hc : H c = some (.lst (wI.map V.int))) (na : a ≠ d) (nc : c ≠ d) (lp : pI.length ≤ 4) (lw : wI.length ≤ 24) (bp : ∀ n ∈ pI, -1000 ≤ n ∧ n ≤ 1000) (bw : ∀ n ∈ wI, -1000 ≤ n ∧ n ≤ 1000)
    (h6 : ∀ P, o6 = some P → ∃ v, x6 = some v ∧ P.holds H v) (h7 : ∀ P, o7 = some P → ∃ v, x7 = some v ∧ P.holds H v) : Cp (psB d pI wI o6 o7) [x0, x1, some (.int b), some (.ref a), some (.ref c), x5, x6, x7] H :=
  .cons (fun P e => by cases e) (.cons (fun P e => by cases e) (.cons (fun P e => by cases e; exact ⟨_, rfl, _, rfl, hb.1, hb.2⟩)
    (.cons (fun P e => by cases e; exact ⟨_, rfl, a, _, rfl, ha, by simpa using na, lp, bp, rfl⟩) (.cons (fun P e => by cases e; exact ⟨_, rfl, c, _, rfl, hc, by simpa using nc, lw, bw, rfl⟩)
    (.cons (fun P e => by cases e) (.cons h6 (.cons h7 .nil)))))))
theorem at_mem {xs : List V} {i : Int} (h0 : 0 ≤ i) (h1 : i < xs.length) : ∃ v ∈ xs, atI xs i = some v := by
  obtain ⟨n, rfl⟩ := Int.eq_ofNat_of_zero_le h0
  have hn : n < xs.length := by lia
  exact ⟨xs[n], List.getElem_mem hn, atI_nat (List.getElem?_eq_getElem hn)⟩
noncomputable def spBad : Sp := fun vs H Q _ => ∃ (f a c : Addr) (b : Nat) (ps : List Nat) (ws : List Int) (cell : Int), vs = [.ref f, .int cell] ∧ FrAt H f a c b ps ws ∧ 0 ≤ cell ∧ ∀ v d H', Same H H' → Tree H' v d → GD 4 80000 d → isFrameD d = false → Q v H'
section
variable {P : Program} {w : World} {K : PySem.W.Frag} {mg : Str → Option Value} {base : Heap}
theorem ok_bad {f : Addr} {fd : FuncData} (F : Fun K "_law_bad" "_law_bad" sLawBad f fd) (T : Txt mg) (hS : mg "str" = none) : FnOk P w K mg base CX0 1 f fd ["frame", "cell"] spBad := by
  refine F.ok scBad (fun vs H Q E h => ?_) (fun cdv A outer s H vs Q E hr h => ?_)
  · obtain ⟨f, a, c, b, ps, ws, cell, rfl, _⟩ := h; rfl
  · obtain ⟨f, a, c, b, ps, ws, cell, rfl, G, h0, k⟩ := h
    have nd := scBad.nd
    have ok := G.ok
    have Fi := ok.fi
    refine ⟨_, (pss_cons (ps_asg (pv 0) (pg_tup rfl (pgs_cons (pg_name (i := 2) nd rfl (Or.inl rfl)) (pgs_cons (pg_name (i := 3) nd rfl (Or.inl rfl)) (pgs_cons (pg_name (i := 4) nd rfl (Or.inl rfl)) pgs_nil)))))
      (pss_cons (ps_set (i := 5) nd rfl (Or.inl rfl) (pe_some fun d => b_0 (d := d) (o6 := none) (o7 := none) T hS Fi))
      (pss_cons (ps_set (i := 5) nd rfl (Or.inl rfl) (pe_op op_cat (pv 5) (pe_some fun d => b_1 (d := d) (o6 := none) (o7 := none) T hS Fi)))
      (pss_cons (ps_set (i := 5) nd rfl (Or.inl rfl) (pe_op op_cat (pv 5) (pe_some fun d => b_2 (d := d) (o6 := none) (o7 := none) T hS Fi)))
      (pss_cons (ps_set (i := 5) nd rfl (Or.inl rfl) (pe_op op_cat (pv 5) (pe_some fun d => b_3 (d := d) (o6 := none) (o7 := none) T hS Fi)))
      (pss_cons (ps_set (i := 5) nd rfl (Or.inl rfl) (pe_op op_cat (pv 5) (pe_some fun d => b_4 (d := d) (o6 := none) (o7 := none) T hS Fi)))
      (pss_cons (ps_set (i := 5) nd rfl (Or.inl rfl) (pe_op op_cat (pv 5) (pe_some fun d => b_5 (d := d) (o6 := none) (o7 := none) T hS Fi)))
      (pss_cons (ps_expr (pe_bm PySem.F.plainAttrs_list PySem.F.slot_list_append PySem.F.type_list_append mt_append (pv 5) (pa_cons (pe_some fun d => b_a1 (d := d) (o6 := none) (o7 := none) T hS Fi) pa_nil)))
      (pss_cons (ps_set (i := 5) nd rfl (Or.inl rfl) (pe_op op_cat (pv 5) (pe_some fun d => b_6 (d := d) (o6 := none) (o7 := none) T hS Fi)))
      (pss_cons (ps_set (i := 5) nd rfl (Or.inl rfl) (pe_op op_cat (pv 5) (pe_some fun d => b_7 (d := d) (o6 := none) (o7 := none) T hS Fi)))
      (pss_cons (ps_set (i := 5) nd rfl (Or.inl rfl) (pe_op op_cat (pv 5) (pe_some fun d => b_8 (d := d) (o6 := none) (o7 := none) T hS Fi)))
      (pss_cons (ps_expr (pe_bm PySem.F.plainAttrs_list PySem.F.slot_list_append PySem.F.type_list_append mt_append (pv 5) (pa_cons (pe_some fun d => b_a2 (d := d) (o6 := none) (o7 := none) T hS Fi) pa_nil)))
      (pss_cons (ps_expr (pe_bm PySem.F.plainAttrs_list PySem.F.slot_list_append PySem.F.type_list_append mt_append (pv 5) (pa_cons (pe_some fun d => b_a3 (d := d) (o6 := none) (o7 := none) T hS Fi) pa_nil)))
      (pss_cons (ps_set (i := 6) nd rfl (Or.inl rfl) (pe_op op_mod (pe_op op_fdiv (pv 1) pe_int) (lenS T.len (by rfl) (pv 3))))
      (pss_cons (ps_for PassesOwn.never rfl (pi_list (pe_some fun d => b_l1 (d := d) (o6 := none) (o7 := none) T hS Fi)) (pg_name (i := 7) nd rfl (Or.inl rfl)) (pss_one (ps_expr (pe_bm PySem.F.plainAttrs_list PySem.F.slot_list_append PySem.F.type_list_append mt_append (pv 5) (pa_cons (pe_some fun d => b_t1 (d := d) T hS Fi) pa_nil)))))
      (pss_cons (ps_set (i := 6) nd rfl (Or.inl rfl) (pe_op op_mod (pe_op op_fdiv (pv 1) pe_int) (lenS T.len (by rfl) (pv 4))))
      (pss_cons (ps_for PassesOwn.never rfl (pi_list (pe_some fun d => b_l2 (d := d) (o6 := none) (o7 := none) T hS Fi)) (pg_name (i := 7) nd rfl (Or.inl rfl)) (pss_one (ps_expr (pe_bm PySem.F.plainAttrs_list PySem.F.slot_list_append PySem.F.type_list_append mt_append (pv 5) (pa_cons (pe_some fun d => b_t2 (d := d) T hS Fi) pa_nil)))))
      (pss_one (ps_ret (ixl (pv 5) (pe_op op_mod (pv 1) (lenS T.len (by rfl) (pv 5))))))))))))))))))))))), ?_⟩
    have hb : (2 : Int) ≤ (b : Int) ∧ (b : Int) ≤ 16 := by have := ok.b2; have := ok.b16; lia
    have ha : H a = some (.lst ((ps.map fun (p : Nat) => (p : Int)).map V.int)) := by rw [← natV_eq]; exact G.hp
    have hc := G.hw
    have lp : (ps.map fun (p : Nat) => (p : Int)).length ≤ 4 := by rw [List.length_map]; exact ok.l4
    have lw : ws.length ≤ 24 := by have := ok.wl; have := ok.sum; lia
    have bp : ∀ n ∈ ps.map fun (p : Nat) => (p : Int), -1000 ≤ n ∧ n ≤ 1000 := fun x hx => by have := Fi.p1 x hx; lia
    have bw : ∀ n ∈ ws, -1000 ≤ n ∧ n ≤ 1000 := fun x hx => by have := ok.wr x hx; lia
    have nof : ∀ (P : PP [f]), (none : Option (PP [f])) = some P → ∃ v, (none : Option V) = some v ∧ P.holds H v := fun P e => by cases e
    have naf : a ≠ f := fun z => by have := G.tp; rw [← z, ha] at this; cases this
    have ncf : c ≠ f := fun z => by have := G.tp; rw [← z, hc] at this; cases this
    refine ⟨_, rfl, f, _, rfl, SqT.of G.tp, rfl, _, _, rfl, _, _, rfl, _, _, rfl, rfl, ?_⟩
    refine ⟨f, cpB hb ha hc naf ncf lp lw bp bw (fun P e => by cases e) (fun P e => by cases e), ⟨_, G.tp⟩, fun v0 H1 _ s1 p1 => ?_⟩
    obtain ⟨z0, x0, rfl, hz0, nz0, l1, l2, it0⟩ := p1
    refine ⟨_, rfl, f, cpB hb (s1 _ _ ha) (s1 _ _ hc) naf ncf lp lw bp bw (fun P e => by cases e) (fun P e => by cases e), ⟨_, s1 _ _ G.tp⟩, fun v1 H2 _ s2 p2 => ?_⟩
    obtain ⟨z1, y1, rfl, hz1, nz1, m1, m2, it1⟩ := p2
    refine ⟨z0, z1, _, _, rfl, rfl, s2 _ _ hz0, hz1, sz (by lia), fun l h_l => ?_⟩
    have W : BW H (upd H2 l (.lst (x0 ++ y1))) l 6 := bw_new (s1.trans s2) h_l (by rw [List.length_append]; lia) fun x hx => by
      rcases List.mem_append.mp hx with hx | hx
      · exact nf_tree ((NF f).per _ _ _ s2 (it0 x hx))
      · exact nf_tree (it1 x hx)
    generalize upd H2 l (.lst (x0 ++ y1)) = G1 at W ⊢
    have nn : ∀ {l : Addr}, H l = none → a ≠ l ∧ c ≠ l := fun {l} h => ⟨fun z => (by rw [z, h] at ha; cases ha), fun z => (by rw [z, h] at hc; cases hc)⟩
    obtain ⟨xs1, e1, n1, g1⟩ := W.ex
    refine ⟨_, rfl, l, cpB hb (W.s _ _ ha) (W.s _ _ hc) (nn W.nl).1 (nn W.nl).2 lp lw bp bw (fun P e => by cases e) (fun P e => by cases e), ⟨_, e1⟩, fun w1 K1 _ t1 q1 => ?_⟩
    obtain ⟨z1, y1, rfl, hz1, nz1, a1, b1, it1⟩ := q1
    refine ⟨l, z1, _, _, rfl, rfl, t1 _ _ e1, hz1, sz (by lia), fun l2 h2 => ?_⟩
    have W : BW H (upd K1 l2 (.lst (xs1 ++ y1))) l2 8 := bw_new (W.s.trans t1) h2 (by rw [List.length_append]; lia) fun x hx => by
      rcases List.mem_append.mp hx with hx | hx
      · exact nf_tree ((NF l).per _ _ _ t1 (g1 x hx))
      · exact nf_tree (it1 x hx)
    generalize upd K1 l2 (.lst (xs1 ++ y1)) = G2 at W ⊢
    obtain ⟨xs2, e2, n2, g2⟩ := W.ex
    refine ⟨_, rfl, l2, cpB hb (W.s _ _ ha) (W.s _ _ hc) (nn W.nl).1 (nn W.nl).2 lp lw bp bw (fun P e => by cases e) (fun P e => by cases e), ⟨_, e2⟩, fun w2 K2 _ t2 q2 => ?_⟩
    obtain ⟨z2, y2, rfl, hz2, nz2, a2, b2, it2⟩ := q2
    refine ⟨l2, z2, _, _, rfl, rfl, t2 _ _ e2, hz2, sz (by lia), fun l3 h3 => ?_⟩
    have W : BW H (upd K2 l3 (.lst (xs2 ++ y2))) l3 10 := bw_new (W.s.trans t2) h3 (by rw [List.length_append]; lia) fun x hx => by
      rcases List.mem_append.mp hx with hx | hx
      · exact nf_tree ((NF l2).per _ _ _ t2 (g2 x hx))
      · exact nf_tree (it2 x hx)
    generalize upd K2 l3 (.lst (xs2 ++ y2)) = G3 at W ⊢
    obtain ⟨xs3, e3, n3, g3⟩ := W.ex
    refine ⟨_, rfl, l3, cpB hb (W.s _ _ ha) (W.s _ _ hc) (nn W.nl).1 (nn W.nl).2 lp lw bp bw (fun P e => by cases e) (fun P e => by cases e), ⟨_, e3⟩, fun w3 K3 _ t3 q3 => ?_⟩
    obtain ⟨z3, y3, rfl, hz3, nz3, a3, b3, it3⟩ := q3
    refine ⟨l3, z3, _, _, rfl, rfl, t3 _ _ e3, hz3, sz (by lia), fun l4 h4 => ?_⟩
    have W : BW H (upd K3 l4 (.lst (xs3 ++ y3))) l4 12 := bw_new (W.s.trans t3) h4 (by rw [List.length_append]; lia) fun x hx => by
      rcases List.mem_append.mp hx with hx | hx
      · exact nf_tree ((NF l3).per _ _ _ t3 (g3 x hx))
      · exact nf_tree (it3 x hx)
    generalize upd K3 l4 (.lst (xs3 ++ y3)) = G4 at W ⊢
    obtain ⟨xs4, e4, n4, g4⟩ := W.ex
    refine ⟨_, rfl, l4, cpB hb (W.s _ _ ha) (W.s _ _ hc) (nn W.nl).1 (nn W.nl).2 lp lw bp bw (fun P e => by cases e) (fun P e => by cases e), ⟨_, e4⟩, fun w4 K4 _ t4 q4 => ?_⟩
    obtain ⟨z4, y4, rfl, hz4, nz4, a4, b4, it4⟩ := q4
    refine ⟨l4, z4, _, _, rfl, rfl, t4 _ _ e4, hz4, sz (by lia), fun l5 h5 => ?_⟩
    have W : BW H (upd K4 l5 (.lst (xs4 ++ y4))) l5 14 := bw_new (W.s.trans t4) h5 (by rw [List.length_append]; lia) fun x hx => by
      rcases List.mem_append.mp hx with hx | hx
      · exact nf_tree ((NF l4).per _ _ _ t4 (g4 x hx))
      · exact nf_tree (it4 x hx)
    generalize upd K4 l5 (.lst (xs4 ++ y4)) = G5 at W ⊢
    obtain ⟨xs5, e5, n5, g5⟩ := W.ex
    refine ⟨_, rfl, .inl ⟨rfl, _, SqL.of e5⟩, l5, cpB hb (W.s _ _ ha) (W.s _ _ hc) (nn W.nl).1 (nn W.nl).2 lp lw bp bw (fun P e => by cases e) (fun P e => by cases e), ⟨_, e5⟩, fun w5 K5 _ t5 q5 => ?_⟩
    refine ⟨l5, _, _, rfl, rfl, t5 _ _ e5, szl (by lia), ?_⟩
    have W := (W.keep t5).app (t5 _ _ e5) q5
    generalize upd K5 l5 (.lst (xs5 ++ [w5])) = G6 at W ⊢
    obtain ⟨xs6, e6, n6, g6⟩ := W.ex
    refine ⟨_, rfl, l5, cpB hb (W.s _ _ ha) (W.s _ _ hc) (nn W.nl).1 (nn W.nl).2 lp lw bp bw (fun P e => by cases e) (fun P e => by cases e), ⟨_, e6⟩, fun w6 K6 _ t6 q6 => ?_⟩
    obtain ⟨z6, y6, rfl, hz6, nz6, a6, b6, it6⟩ := q6
    refine ⟨l5, z6, _, _, rfl, rfl, t6 _ _ e6, hz6, sz (by lia), fun l7 h7 => ?_⟩
    have W : BW H (upd K6 l7 (.lst (xs6 ++ y6))) l7 17 := bw_new (W.s.trans t6) h7 (by rw [List.length_append]; lia) fun x hx => by
      rcases List.mem_append.mp hx with hx | hx
      · exact nf_tree ((NF l5).per _ _ _ t6 (g6 x hx))
      · exact nf_tree (it6 x hx)
    generalize upd K6 l7 (.lst (xs6 ++ y6)) = G7 at W ⊢
    obtain ⟨xs7, e7, n7, g7⟩ := W.ex
    refine ⟨_, rfl, l7, cpB hb (W.s _ _ ha) (W.s _ _ hc) (nn W.nl).1 (nn W.nl).2 lp lw bp bw (fun P e => by cases e) (fun P e => by cases e), ⟨_, e7⟩, fun w7 K7 _ t7 q7 => ?_⟩
    obtain ⟨z7, y7, rfl, hz7, nz7, a7, b7, it7⟩ := q7
    refine ⟨l7, z7, _, _, rfl, rfl, t7 _ _ e7, hz7, sz (by lia), fun l8 h8 => ?_⟩
    have W : BW H (upd K7 l8 (.lst (xs7 ++ y7))) l8 19 := bw_new (W.s.trans t7) h8 (by rw [List.length_append]; lia) fun x hx => by
      rcases List.mem_append.mp hx with hx | hx
      · exact nf_tree ((NF l7).per _ _ _ t7 (g7 x hx))
      · exact nf_tree (it7 x hx)
    generalize upd K7 l8 (.lst (xs7 ++ y7)) = G8 at W ⊢
    obtain ⟨xs8, e8, n8, g8⟩ := W.ex
    refine ⟨_, rfl, l8, cpB hb (W.s _ _ ha) (W.s _ _ hc) (nn W.nl).1 (nn W.nl).2 lp lw bp bw (fun P e => by cases e) (fun P e => by cases e), ⟨_, e8⟩, fun w8 K8 _ t8 q8 => ?_⟩
    obtain ⟨z8, y8, rfl, hz8, nz8, a8, b8, it8⟩ := q8
    refine ⟨l8, z8, _, _, rfl, rfl, t8 _ _ e8, hz8, sz (by lia), fun l9 h9 => ?_⟩
    have W : BW H (upd K8 l9 (.lst (xs8 ++ y8))) l9 21 := bw_new (W.s.trans t8) h9 (by rw [List.length_append]; lia) fun x hx => by
      rcases List.mem_append.mp hx with hx | hx
      · exact nf_tree ((NF l8).per _ _ _ t8 (g8 x hx))
      · exact nf_tree (it8 x hx)
    generalize upd K8 l9 (.lst (xs8 ++ y8)) = G9 at W ⊢
    obtain ⟨xs9, e9, n9, g9⟩ := W.ex
    refine ⟨_, rfl, .inl ⟨rfl, _, SqL.of e9⟩, l9, cpB hb (W.s _ _ ha) (W.s _ _ hc) (nn W.nl).1 (nn W.nl).2 lp lw bp bw (fun P e => by cases e) (fun P e => by cases e), ⟨_, e9⟩, fun w9 K9 _ t9 q9 => ?_⟩
    refine ⟨l9, _, _, rfl, rfl, t9 _ _ e9, szl (by lia), ?_⟩
    have W := (W.keep t9).app (t9 _ _ e9) q9
    generalize upd K9 l9 (.lst (xs9 ++ [w9])) = G10 at W ⊢
    obtain ⟨xs10, e10, n10, g10⟩ := W.ex
    refine ⟨_, rfl, .inl ⟨rfl, _, SqL.of e10⟩, l9, cpB hb (W.s _ _ ha) (W.s _ _ hc) (nn W.nl).1 (nn W.nl).2 lp lw bp bw (fun P e => by cases e) (fun P e => by cases e), ⟨_, e10⟩, fun w10 K10 _ t10 q10 => ?_⟩
    refine ⟨l9, _, _, rfl, rfl, t10 _ _ e10, szl (by lia), ?_⟩
    have W := (W.keep t10).app (t10 _ _ e10) q10
    generalize upd K10 l9 (.lst (xs10 ++ [w10])) = G11 at W ⊢
    have lw2 : 0 < ws.length := by have := ok.wl; have := ok.sum; lia
    have lpp : 0 < ((ps.map fun (p : Nat) => (p : Int)).map V.int).length := by rw [List.length_map, List.length_map]; have := ok.l2; lia
    have lww : 0 < (ws.map V.int).length := by rw [List.length_map]; exact lw2
    -- the place
    refine ⟨_, rfl, _, _, rfl, rfl, ⟨(show (0 : Int) < 100 by decide), (show (100 : Int) < 1073741824 by decide)⟩, _, rfl, a, _, rfl, .inl (SqL.of (W.s _ _ ha)), _, _, rfl, rfl, (show (0 : Int) < _ by rw [List.length_map, List.length_map]; have := ok.l2; lia), ?_⟩
    have at0 : 0 ≤ cell / 100 % ((((ps.map fun (p : Nat) => (p : Int)).map V.int).length : Nat) : Int) := Int.emod_nonneg _ (by have := lpp; lia)
    have at1 : cell / 100 % ((((ps.map fun (p : Nat) => (p : Int)).map V.int).length : Nat) : Int) < ((((ps.map fun (p : Nat) => (p : Int)).map V.int).length : Nat) : Int) := Int.emod_lt_of_pos _ (by have := lpp; lia)
    have at2 : ((((ps.map fun (p : Nat) => (p : Int)).map V.int).length : Nat) : Int) ≤ 4 := by rw [List.length_map]; lia
    obtain ⟨xs11, e11, n11, g11⟩ := W.ex
    refine ⟨l9, cpB hb (W.s _ _ ha) (W.s _ _ hc) (nn W.nl).1 (nn W.nl).2 lp lw bp bw (fun P e => by cases e) (fun P e => by cases e), ⟨_, e11⟩, fun w11 K11 _ t11 q11 => ?_⟩
    obtain ⟨z11, y11, rfl, hz11, nz11, a11, b11, it11⟩ := q11
    have W := W.keep t11
    refine ⟨z11, rfl, ⟨_, SqL.of hz11⟩, for_list (K := K) (a := z11) (xs := y11) (fun q σ H' => ∃ v7, σ = [some (.ref f), some (.int cell), some (.int (b : Int)), some (.ref a), some (.ref c), some (.ref l9), some (.int (cell / 100 % ((((ps.map fun (p : Nat) => (p : Int)).map V.int).length : Nat) : Int))), v7] ∧ BW H H' l9 (23 + q) ∧ Kp [l9] K11 H') ⟨none, rfl, W, Kp.refl⟩ (fun q σ H' _ p => by obtain ⟨_, _, _, kk⟩ := p; exact SqL.of (kk _ _ hz11 nz11)) ?_ ?_⟩
    · rintro q x σ H' hx ⟨v7, rfl, W', kk⟩
      have hq : q < y11.length := (List.getElem?_eq_some_iff.mp hx).1
      have px := it11 x (List.mem_of_getElem? hx)
      have px' : (odP [l9] 1 6).holds H' x := ⟨px.1.keep (off_kp kk), px.2⟩
      obtain ⟨xs', e', n', g'⟩ := W'.ex
      refine ⟨_, rfl, .inl ⟨rfl, _, SqL.of e'⟩, l9, cpB hb (W'.s _ _ ha) (W'.s _ _ hc) (nn W'.nl).1 (nn W'.nl).2 lp lw bp bw (fun P e => by cases e; exact ⟨_, rfl, _, rfl, by lia, by lia⟩) (fun P e => by cases e; exact ⟨_, rfl, px'⟩), ⟨_, e'⟩, fun w' K' _ t' q' => ?_⟩
      refine ⟨l9, _, _, rfl, rfl, t' _ _ e', szl (by lia), ?_⟩
      have W2 := (W'.keep t').app (t' _ _ e') q'
      refine ⟨_, rfl, W2, ?_⟩
      exact (kk.same t').trans (fun y o' e n => by rw [upd_ne (fun z => n (by rw [z]; simp))]; exact e)
    rintro σ G12 ⟨u11, rfl, W, _⟩
    have hy11 : y11.length = 7 := by lia
    rw [hy11] at W
    -- the place
    refine ⟨_, rfl, _, _, rfl, rfl, ⟨(show (0 : Int) < 100 by decide), (show (100 : Int) < 1073741824 by decide)⟩, _, rfl, c, _, rfl, .inl (SqL.of (W.s _ _ hc)), _, _, rfl, rfl, (show (0 : Int) < _ by rw [List.length_map]; have := lw2; lia), ?_⟩
    have at0 : 0 ≤ cell / 100 % (((ws.map V.int).length : Nat) : Int) := Int.emod_nonneg _ (by have := lww; lia)
    have at1 : cell / 100 % (((ws.map V.int).length : Nat) : Int) < (((ws.map V.int).length : Nat) : Int) := Int.emod_lt_of_pos _ (by have := lww; lia)
    have at2 : (((ws.map V.int).length : Nat) : Int) ≤ 24 := by rw [List.length_map]; lia
    obtain ⟨xs12, e12, n12, g12⟩ := W.ex
    refine ⟨l9, cpB hb (W.s _ _ ha) (W.s _ _ hc) (nn W.nl).1 (nn W.nl).2 lp lw bp bw (fun P e => by cases e) (fun P e => by cases e), ⟨_, e12⟩, fun w12 K12 _ t12 q12 => ?_⟩
    obtain ⟨z12, y12, rfl, hz12, nz12, a12, b12, it12⟩ := q12
    have W := W.keep t12
    refine ⟨z12, rfl, ⟨_, SqL.of hz12⟩, for_list (K := K) (a := z12) (xs := y12) (fun q σ H' => ∃ v7, σ = [some (.ref f), some (.int cell), some (.int (b : Int)), some (.ref a), some (.ref c), some (.ref l9), some (.int (cell / 100 % (((ws.map V.int).length : Nat) : Int))), v7] ∧ BW H H' l9 (30 + q) ∧ Kp [l9] K12 H') ⟨u11, rfl, W, Kp.refl⟩ (fun q σ H' _ p => by obtain ⟨_, _, _, kk⟩ := p; exact SqL.of (kk _ _ hz12 nz12)) ?_ ?_⟩
    · rintro q x σ H' hx ⟨v7, rfl, W', kk⟩
      have hq : q < y12.length := (List.getElem?_eq_some_iff.mp hx).1
      have px := it12 x (List.mem_of_getElem? hx)
      have px' : (odP [l9] (-9) 9).holds H' x := ⟨px.1.keep (off_kp kk), px.2⟩
      obtain ⟨xs', e', n', g'⟩ := W'.ex
      refine ⟨_, rfl, .inl ⟨rfl, _, SqL.of e'⟩, l9, cpB hb (W'.s _ _ ha) (W'.s _ _ hc) (nn W'.nl).1 (nn W'.nl).2 lp lw bp bw (fun P e => by cases e; exact ⟨_, rfl, _, rfl, by lia, by lia⟩) (fun P e => by cases e; exact ⟨_, rfl, px'⟩), ⟨_, e'⟩, fun w' K' _ t' q' => ?_⟩
      refine ⟨l9, _, _, rfl, rfl, t' _ _ e', szl (by lia), ?_⟩
      have W2 := (W'.keep t').app (t' _ _ e') q'
      refine ⟨_, rfl, W2, ?_⟩
      exact (kk.same t').trans (fun y o' e n => by rw [upd_ne (fun z => n (by rw [z]; simp))]; exact e)
    rintro σ G13 ⟨u12, rfl, W, _⟩
    have hy12 : y12.length = 7 := by lia
    rw [hy12] at W
    obtain ⟨xs, ex, nx, gx⟩ := W.ex
    refine ⟨_, rfl, _, rfl, _, rfl, l9, _, rfl, .inl (SqL.of ex), _, _, rfl, rfl, ?_⟩
    rw [nx]
    obtain ⟨v, hv, ev⟩ := at_mem (xs := xs) (i := cell % ((37 : Nat) : Int)) (Int.emod_nonneg _ (by decide)) (by rw [nx]; exact Int.emod_lt_of_pos _ (by decide))
    obtain ⟨dd, t, g, q⟩ := nf_tree (gx v hv)
    exact ⟨(show (0 : Int) < ((37 : Nat) : Int) by decide), _, _, _, _, rfl, rfl, SqL.of ex, ev, k v dd _ W.s t g q⟩
end
end Hv
namespace Hv
open PySem L2
theorem boot_repr' : bootBuiltins "repr" = some (.builtin "repr") := PyProof.Rows.boot_repr
noncomputable def spLaw (K : PySem.W.Frag) : Sp := fun vs H Q _ => ∃ (a : Addr) (ns : List Int), vs = [.ref a] ∧ SqL K H a (ns.map V.int) ∧ ns.length ≤ 63 ∧ ∀ H', Q (.bl true) H'
theorem lay_bs {b : Bool} {z : Str} (h : Asc z) : (PyData.list [.bool b, .str z]).canLay0 = true := by
  have : PyData.strOk z = true := by
    unfold PyData.strOk
    rw [← Array.all_toList, List.all_eq_true]
    intro c hc
    have := h c hc
    exact decide_eq_true (by lia)
  simp [PyData.canLay0, PyData.canLayAll0, this]
theorem asc_lit {z : Str} (h : goodB z = true) : Asc z := (gd_of h).1
theorem at_text : Asc "text" := asc_lit (by decide +kernel)
theorem at_frame : Asc "frame" := asc_lit (by decide +kernel)
theorem eq_bs {P : Program} {w : World} {neg : Bool} {l m : Addr} {b : Bool} {z : Str} {H : Hp} {Q : VK} (h1 : H l = some (.lst [.bl b, .str z])) (h2 : H m = some (.lst [.bl b, .str z])) (a : Asc z) (q : Q (.bl (!neg)) H) : rEqD P w neg (.ref l) (.ref m) H Q :=
  L2.eq_self (datL h1 (.cons (datB _) (.cons (datS _) .nil))) (datL h2 (.cons (datB _) (.cons (datS _) .nil))) (lay_bs a) (by simp [PyData.depth, PyData.depthAll]) q
@[irreducible] def kO3 : Expr := (.List [(.Constant (.str "10:1+1:1 1") 0 ⟨200, 26, 200, 38⟩)] ⟨200, 25, 200, 39⟩)
theorem kO3_eq : kO3 = (.List [(.Constant (.str "10:1+1:1 1") 0 ⟨200, 26, 200, 38⟩)] ⟨200, 25, 200, 39⟩) := by unfold kO3; rfl
@[irreducible] def kO4 : Expr := (.Tuple [(.Constant (.int 10) 0 ⟨200, 42, 200, 44⟩), (.List [(.Constant (.int 1) 0 ⟨200, 47, 200, 48⟩), (.Constant (.int 1) 0 ⟨200, 50, 200, 51⟩)] ⟨200, 46, 200, 52⟩), (.List [(.Constant (.int 1) 0 ⟨200, 55, 200, 56⟩), (.Constant (.int 1) 0 ⟨200, 58, 200, 59⟩)] ⟨200, 54, 200, 60⟩)] 0 ⟨200, 41, 200, 61⟩)
theorem kO4_eq : kO4 = (.Tuple [(.Constant (.int 10) 0 ⟨200, 42, 200, 44⟩), (.List [(.Constant (.int 1) 0 ⟨200, 47, 200, 48⟩), (.Constant (.int 1) 0 ⟨200, 50, 200, 51⟩)] ⟨200, 46, 200, 52⟩), (.List [(.Constant (.int 1) 0 ⟨200, 55, 200, 56⟩), (.Constant (.int 1) 0 ⟨200, 58, 200, 59⟩)] ⟨200, 54, 200, 60⟩)] 0 ⟨200, 41, 200, 61⟩) := by unfold kO4; rfl
@[irreducible] def kO7 : Expr := (.List [(.Constant (.int 1) 0 ⟨200, 74, 200, 75⟩)] ⟨200, 73, 200, 76⟩)
theorem kO7_eq : kO7 = (.List [(.Constant (.int 1) 0 ⟨200, 74, 200, 75⟩)] ⟨200, 73, 200, 76⟩) := by unfold kO7; rfl
@[irreducible] def kO : Expr := (.List [(.Constant .none 0 ⟨200, 16, 200, 20⟩), (.Constant (.int 0) 0 ⟨200, 22, 200, 23⟩), kO3, kO4, (.Constant (.bool true) 0 ⟨200, 63, 200, 67⟩), (.Dict [] [] ⟨200, 69, 200, 71⟩), kO7] ⟨200, 15, 200, 77⟩)
theorem kO_eq0 : kO = (.List [(.Constant .none 0 ⟨200, 16, 200, 20⟩), (.Constant (.int 0) 0 ⟨200, 22, 200, 23⟩), kO3, kO4, (.Constant (.bool true) 0 ⟨200, 63, 200, 67⟩), (.Dict [] [] ⟨200, 69, 200, 71⟩), kO7] ⟨200, 15, 200, 77⟩) := by unfold kO; rfl
theorem kO_eq : kO = (.List [(.Constant .none 0 ⟨200, 16, 200, 20⟩), (.Constant (.int 0) 0 ⟨200, 22, 200, 23⟩), (.List [(.Constant (.str "10:1+1:1 1") 0 ⟨200, 26, 200, 38⟩)] ⟨200, 25, 200, 39⟩), (.Tuple [(.Constant (.int 10) 0 ⟨200, 42, 200, 44⟩), (.List [(.Constant (.int 1) 0 ⟨200, 47, 200, 48⟩), (.Constant (.int 1) 0 ⟨200, 50, 200, 51⟩)] ⟨200, 46, 200, 52⟩), (.List [(.Constant (.int 1) 0 ⟨200, 55, 200, 56⟩), (.Constant (.int 1) 0 ⟨200, 58, 200, 59⟩)] ⟨200, 54, 200, 60⟩)] 0 ⟨200, 41, 200, 61⟩), (.Constant (.bool true) 0 ⟨200, 63, 200, 67⟩), (.Dict [] [] ⟨200, 69, 200, 71⟩), (.List [(.Constant (.int 1) 0 ⟨200, 74, 200, 75⟩)] ⟨200, 73, 200, 76⟩)] ⟨200, 15, 200, 77⟩) := by rw [kO_eq0, kO3_eq, kO4_eq, kO7_eq]
noncomputable def forB : Stmt → List Stmt
  | .For _ _ b _ _ => b
  | _ => []
theorem kO_body : defBody sLaw = (defBody sLaw).getD 0 (.Pass ⟨0, 0, 0, 0⟩) :: .For (.Name "odd" ⟨200, 8, 200, 11⟩) kO (forB ((defBody sLaw).getD 1 (.Pass ⟨0, 0, 0, 0⟩))) [] ⟨200, 4, 202, 24⟩ :: (defBody sLaw).drop 2 := by rw [kO_eq]; rfl
noncomputable def tOdd : TE := fun _ H Q => ∀ (l : Addr) (vs : List V) (H' : Hp), Same H H' → H' l = some (.lst vs) → vs.length = 7 → (∀ v ∈ vs, Thing H' v ∧ ∀ z, v ≠ .str z) → Q (.ref l) H'
theorem pe_k3 {X : Cx} : PE X kO3 (tLst (tCons (tC (.str "10:1+1:1 1")) tNil)) := by
  rw [kO3_eq]
  exact pe_lst (pa_cons pe_str pa_nil)
theorem pe_k4 {X : Cx} : PE X kO4 (tTup (tCons (tC (.int 10)) (tCons (tLst (tCons (tC (.int 1)) (tCons (tC (.int 1)) tNil))) (tCons (tLst (tCons (tC (.int 1)) (tCons (tC (.int 1)) tNil))) tNil)))) := by
  rw [kO4_eq]
  exact pe_tup (pa_cons pe_int (pa_cons (pe_lst (pa_cons pe_int (pa_cons pe_int pa_nil))) (pa_cons (pe_lst (pa_cons pe_int (pa_cons pe_int pa_nil))) pa_nil)))
theorem pe_k7 {X : Cx} : PE X kO7 (tLst (tCons (tC (.int 1)) tNil)) := by
  rw [kO7_eq]
  exact pe_lst (pa_cons pe_int pa_nil)
theorem pe_kO {X : Cx} : PE X kO tOdd := by
  rw [kO_eq0]
  refine weak (t := tLst (tCons (tC .non) (tCons (tC (.int 0)) (tCons (tLst (tCons (tC (.str "10:1+1:1 1")) tNil)) (tCons (tTup (tCons (tC (.int 10)) (tCons (tLst (tCons (tC (.int 1)) (tCons (tC (.int 1)) tNil))) (tCons (tLst (tCons (tC (.int 1)) (tCons (tC (.int 1)) tNil))) tNil)))) (tCons (tC (.bl true)) (tCons tDNewK (tCons (tLst (tCons (tC (.int 1)) tNil)) tNil)))))))) ?_ ?b
  · refine pe_lst ?_
    refine pa_cons pe_non ?_
    refine pa_cons pe_int ?_
    refine pa_cons pe_k3 ?_ (star_cons (by rw [kO3_eq]; rfl))
    refine pa_cons pe_k4 ?_ (star_cons (by rw [kO4_eq]; rfl))
    refine pa_cons pe_bl ?_
    refine pa_cons pe_dnewK ?_
    refine pa_cons pe_k7 ?_ (star_cons (by rw [kO7_eq]; rfl))
    exact pa_nil
  case b =>
    intro σ H Q h
    refine ⟨sz (by simp), fun p1 h1 => ⟨sz (by simp), fun p2 h2 => ⟨sz (by simp), fun p3 h3 => ⟨sz (by simp), fun p4 h4 => fun p5 h5 => ⟨sz (by simp), fun p6 h6 => ⟨sz (by simp), fun l hl => ?_⟩⟩⟩⟩⟩⟩
    have s1 := same_upd (o := .lst [.str "10:1+1:1 1"]) h1
    have s2 := same_upd (o := .lst [.int 1, .int 1]) h2
    have s3 := same_upd (o := .lst [.int 1, .int 1]) h3
    have s4 := same_upd (o := .tup [.int 10, .ref p2, .ref p3]) h4
    have s5 := same_upd (o := .dK []) h5
    have s6 := same_upd (o := .lst [.int 1]) h6
    have s7 := same_upd (o := .lst [.non, .int 0, .ref p1, .ref p4, .bl true, .ref p5, .ref p6]) hl
    refine h l _ _ (((((((s1.trans s2).trans s3).trans s4).trans s5).trans s6).trans s7)) upd_same rfl ?_
    intro v hv
    have e1 := s7 _ _ (s6 _ _ (s5 _ _ (s4 _ _ (s3 _ _ (s2 _ _ (upd_same (H := H) (a := p1) (o := .lst [.str "10:1+1:1 1"])))))))
    have e4 := s7 _ _ (s6 _ _ (s5 _ _ (upd_same (H := upd (upd (upd H p1 (.lst [.str "10:1+1:1 1"])) p2 (.lst [.int 1, .int 1])) p3 (.lst [.int 1, .int 1])) (a := p4) (o := .tup [.int 10, .ref p2, .ref p3]))))
    have e5 := s7 _ _ (s6 _ _ (upd_same (H := upd (upd (upd (upd H p1 (.lst [.str "10:1+1:1 1"])) p2 (.lst [.int 1, .int 1])) p3 (.lst [.int 1, .int 1])) p4 (.tup [.int 10, .ref p2, .ref p3])) (a := p5) (o := .dK [])))
    have e6 := s7 _ _ (upd_same (H := upd (upd (upd (upd (upd H p1 (.lst [.str "10:1+1:1 1"])) p2 (.lst [.int 1, .int 1])) p3 (.lst [.int 1, .int 1])) p4 (.tup [.int 10, .ref p2, .ref p3])) p5 (.dK [])) (a := p6) (o := .lst [.int 1]))
    simp only [List.mem_cons, List.not_mem_nil, or_false] at hv
    rcases hv with rfl | rfl | rfl | rfl | rfl | rfl | rfl
    · exact ⟨.non, fun z e => by cases e⟩
    · exact ⟨.int 0, fun z e => by cases e⟩
    · exact ⟨.lst e1, fun z e => by cases e⟩
    · exact ⟨.tup e4, fun z e => by cases e⟩
    · exact ⟨.bl true, fun z e => by cases e⟩
    · exact ⟨.dK e5, fun z e => by cases e⟩
    · exact ⟨.lst e6, fun z e => by cases e⟩
end Hv
namespace Hv
open PySem L2
theorem via {I NX : St → Hp → Prop} {G : Prop} (main : (∀ σ H, I σ H → NX σ H) → G) (key : ∀ σ H, I σ H → NX σ H) : G := main key
section
variable {P : Program} {w : World} {K : PySem.W.Frag} {mg : Str → Option Value} {base : Heap} {c : Nat → Addr}
theorem scLaw : FnScope ["script", "k", "cell", "text", "found", "bad", "kept", "odd"] ["script"] (defScope sLaw) := ⟨rfl, rfl, rfl, by decide +kernel, rfl, by decide +kernel, by decide +kernel⟩
theorem ok_law {f : Addr} {fd : FuncData} (F : Fun K "law" "law" sLaw f fd) (T : Txt mg) (nrepr : mg "repr" = none) (nabs : mg "abs" = none) (d_law_cell : Def P w K mg base 1 "_law_cell" ["script", "k"] (spCell K)) (d_law_mixed : Def P w K mg base 1 "_law_mixed" ["cell", "k"] spMixed) (d_law_frame : Def P w K mg base 2 "_law_frame" ["cell", "most"] spFrame38) (d_law_given : Def P w K mg base 3 "_law_given" ["cell"] spGiven) (d_law_asked : Def P w K mg base 7 "_law_asked" ["ask", "thing"] spAsk) (d_law_writes : Def P w K mg base 2 "_law_writes" ["text"] spWrites) (d_law_bad : Def P w K mg base 1 "_law_bad" ["frame", "cell"] spBad) : FnOk P w K mg base CX0 8 f fd ["script"] (spLaw K) := by
  refine F.ok scLaw (fun vs H Q E h => ?_) (fun cdv A outer s H vs Q E hr h => ?_)
  · obtain ⟨a0, ns, rfl, _⟩ := h; rfl
  · obtain ⟨a0, ns, rfl, hS, hlen, k⟩ := h
    have nd := scLaw.nd
    rw [kO_body]
    refine ⟨_, (pss_cons (ps_for PassesOwn.never rfl (pi_range1 (by rfl) T.range (pa_cons (pe_callB (call_max2 rfl) (by rfl) T.max boot_max (pa_cons pe_int (pa_cons (pe_callB (call_min2 rfl) (by rfl) T.min boot_min (pa_cons (lenS T.len (by rfl) (pv 0)) (pa_cons pe_int pa_nil))) pa_nil))) pa_nil)) (pg_name (i := 1) nd rfl (Or.inl rfl))
        (pss_cons (ps_set (i := 2) nd rfl (Or.inl rfl) (pe_callB call_abs (by rfl) nabs PyProof.Rows.boot_abs (pa_cons (pe_fn d_law_cell (hr.mono (by decide)) (by rfl) (pa_cons (pv 0) (pa_cons (pv 1) pa_nil))) pa_nil)))
        (pss_cons (ps_set (i := 3) nd rfl (Or.inl rfl) (pe_fn d_law_given (hr.mono (by decide)) (by rfl) (pa_cons (pv 2) pa_nil)))
        (pss_cons (ps_set (i := 4) nd rfl (Or.inl rfl) (pe_fn d_law_asked hr (by rfl) (pa_cons pe_int (pa_cons (pv 3) pa_nil))))
        (pss_cons (ps_cut (ps_if (pt_val (pe_fn d_law_writes (hr.mono (by decide)) (by rfl) (pa_cons (pv 3) pa_nil))) (pss_one (ps_if (PW.pt (pw_or (pt_val (ixl (pv 4) pe_int)) (pw_or1 (pt_cmpR (op_neDP P w rfl rfl hr.units) (pe_fn d_law_asked hr (by rfl) (pa_cons pe_int (pa_cons (ixl (pv 4) pe_int) pa_nil))) (pe_lst (pa_cons pe_bl (pa_cons (pv 3) pa_nil))) (nomark _))))) (pss_one (ps_ret pe_bl)) pss_nil)) (pss_one (ps_if (pt_cmpR (op_neDP P w rfl rfl hr.units) (pv 4) (pe_lst (pa_cons pe_bl (pa_cons pe_str pa_nil))) (nomark _)) (pss_one (ps_ret pe_bl)) pss_nil))))
        (pss_cons (ps_set (i := 5) nd rfl (Or.inl rfl) (pe_fn d_law_bad (hr.mono (by decide)) (by rfl) (pa_cons (pe_fn d_law_frame (hr.mono (by decide)) (by rfl) (pa_cons (pe_fn d_law_mixed (hr.mono (by decide)) (by rfl) (pa_cons (pv 2) (pa_cons pe_int pa_nil))) (pa_cons pe_int pa_nil))) (pa_cons (pe_fn d_law_mixed (hr.mono (by decide)) (by rfl) (pa_cons (pv 2) (pa_cons pe_int pa_nil))) pa_nil))))
        (pss_cons (ps_set (i := 6) nd rfl (Or.inl rfl) (pe_callB (call_reprT hr.gd hr.units) (by rfl) nrepr boot_repr' (pa_cons (pv 5) pa_nil)))
        (pss_one (ps_if (PW.pt (pw_or (pt_cmpR (op_neDP P w rfl rfl hr.units) (pe_fn d_law_asked hr (by rfl) (pa_cons pe_int (pa_cons (pv 5) pa_nil))) (pe_lst (pa_cons pe_bl (pa_cons pe_str pa_nil))) (nomark _)) (pw_or1 (pt_cmpR op_ne (pe_callB (call_reprT hr.gd hr.units) (by rfl) nrepr boot_repr' (pa_cons (pv 5) pa_nil)) (pv 6) (nomark _))))) (pss_one (ps_ret pe_bl)) pss_nil)))))))))
      (pss_cons (ps_for PassesOwn.never rfl (pi_list pe_kO) (pg_name (i := 7) nd rfl (Or.inl rfl)) (pss_one (ps_if (pt_cmpR (op_neDP P w rfl rfl hr.units) (pe_fn d_law_asked hr (by rfl) (pa_cons pe_int (pa_cons (pv 7) pa_nil))) (pe_lst (pa_cons pe_bl (pa_cons pe_str pa_nil))) (nomark _)) (pss_one (ps_ret pe_bl)) pss_nil)) (hs := fun _ => by rw [kO_eq]; rfl))
      (pss_one (ps_ret pe_bl)))), ?_⟩
    refine ⟨_, rfl, a0, _, rfl, .inl hS, _, _, rfl, _, _, rfl, ?_⟩
    generalize hM : (if (if (63 : Int) < (((ns.map V.int).length : Nat) : Int) then (63 : Int) else (((ns.map V.int).length : Nat) : Int)) > (16 : Int) then (if (63 : Int) < (((ns.map V.int).length : Nat) : Int) then (63 : Int) else (((ns.map V.int).length : Nat) : Int)) else (16 : Int)) = M
    have m1 : 16 ≤ M ∧ M ≤ 63 := by
      rw [← hM]
      split <;> (split <;> lia)
    refine ⟨_, rfl, by lia, by lia, for_range (n := M.toNat) (fun i σ H2 => ∃ v1 v2 v3 v4 v5 v6 v7, σ = [some (.ref a0), v1, v2, v3, v4, v5, v6, v7] ∧ Same H H2) ⟨none, none, none, none, none, none, none, rfl, Same.refl _⟩ ?_ ?_⟩
    · rintro i σ H2 hi ⟨v1, v2, v3, v4, v5, v6, v7, rfl, s2⟩
      have ez : (0 : Int) + (i : Int) = (i : Int) := Int.zero_add _
      rw [ez]
      refine ⟨_, rfl, _, rfl, a0, ns, i, rfl, s2.seq hS, by lia, fun cl => ⟨_, rfl, ?_⟩⟩
      generalize hce : (if cl < 0 then -cl else cl) = cell
      have h0 : 0 ≤ cell := by rw [← hce]; split <;> lia
      refine ⟨_, rfl, _, rfl, h0, fun z H3 asc lz s3 => ?_⟩
      have S3 := s2.trans s3
      refine ⟨_, rfl, V.str z, .inl ⟨rfl, ?_⟩⟩
      apply via (I := fun σ H' => ∃ v4, σ = [some (.ref a0), some (.int (i : Int)), some (.int cell), some (.str z), v4, v5, v6, v7] ∧ Same H H')
      · intro key
        by_cases hW : WrF z
        · obtain ⟨b, ps, ws, ok, ez⟩ := hW
          refine .inl ⟨z, b, ps, ws, rfl, asc, lz, ok, ez, fun l f1 a1 c1 H4 s4 hl G4 => ⟨_, ?_, key⟩⟩
          refine ⟨_, rfl, z, rfl, asc, lz, fun _ H5 s5 => ⟨_, rfl, iteT ?_⟩, fun n => absurd ⟨b, ps, ws, ok, ez⟩ n⟩
          have hl5 := s5 _ _ hl
          refine ⟨_, rfl, _, _, _, _, rfl, rfl, SqL.of hl5, rfl, false, rfl, iteF ⟨_, rfl, _, _, _, _, rfl, rfl, SqL.of hl5, rfl, V.ref f1, .inr ⟨rfl, .inl ⟨f1, a1, c1, b, ps, ws, rfl, G4.keep s5, fun l6 H6 s6 hl6 => ?_⟩⟩⟩⟩
          refine ⟨_, rfl, sz (by simp), fun m hm => ?_⟩
          have q := same_upd (o := .lst [.bl false, .str z]) hm
          rw [← ez] at hl6
          refine eq_bs (neg := true) (q _ _ hl6) upd_same asc ⟨_, rfl, iteF ⟨_, rfl, (((S3.trans s4).trans s5).trans s6).trans q⟩⟩
        · refine .inr ⟨.inl ⟨z, rfl, asc, lz, hW⟩, fun l H4 s4 hl => ⟨_, ?_, key⟩⟩
          refine ⟨_, rfl, z, rfl, asc, lz, fun n => absurd n hW, fun _ H5 s5 => ⟨_, rfl, iteF ?_⟩⟩
          refine ⟨_, rfl, sz (by simp), fun m hm => ?_⟩
          have q := same_upd (o := .lst [.bl true, .str "text"]) hm
          refine eq_bs (neg := true) (q _ _ (s5 _ _ hl)) upd_same at_text ⟨_, rfl, iteF ⟨_, rfl, ((S3.trans s4).trans s5).trans q⟩⟩
      · rintro σ H4 ⟨v4, rfl, S4⟩
        refine ⟨_, rfl, _, _, rfl, h0, by decide, by decide, fun r H5 r0 s5 => ?_⟩
        refine ⟨_, rfl, r0, fun f1 a1 c1 b ps ws H6 s6 G6 _ _ _ _ => ?_⟩
        refine ⟨_, rfl, _, _, rfl, h0, by decide, by decide, fun r2 H7 r20 s7 => ?_⟩
        refine ⟨f1, a1, c1, b, ps, ws, r2, rfl, G6.keep s7, r20, fun v d H8 s8 t g hf => ?_⟩
        have S8 := (((S4.trans s5).trans s6).trans s7).trans s8
        have shd : Sh d := Nat.le_trans g.wt (by decide)
        have cd2 : d.depth ≤ 50 := Nat.le_trans g.dp (by decide)
        have c3 := g.shown (by decide)
        refine ⟨_, rfl, _, d, rfl, t, g.sh, cd2, c3, ?_⟩
        refine ⟨_, rfl, v, .inr ⟨rfl, .inr ⟨d, t, shd, hf, fun l H9 s9 hl => ?_⟩⟩⟩
        refine ⟨sz (by simp), fun m hm => ?_⟩
        have q := same_upd (o := .lst [.bl true, .str "frame"]) hm
        refine eq_bs (neg := true) (q _ _ hl) upd_same at_frame ⟨_, rfl, iteF ?_⟩
        generalize upd H9 m (.lst [.bl true, .str "frame"]) = H10 at q ⊢
        refine ⟨_, rfl, _, d, rfl, t.keep (s9.trans q), g.sh, cd2, c3, _, rfl, rfl, _, rfl, ?_⟩
        rw [show (!decide (V.str d.shown = V.str d.shown)) = false by simp]
        exact iteF ⟨_, _, _, _, _, _, _, rfl, (S8.trans s9).trans q⟩
    · rintro σ H2 ⟨v1, v2, v3, v4, v5, v6, v7, rfl, s2⟩
      refine fun l vs H3 s3 hl hn hv => ⟨l, rfl, ⟨_, SqL.of hl⟩, for_list (K := K) (a := l) (xs := vs) (fun j σ H' => ∃ v7, σ = [some (.ref a0), v1, v2, v3, v4, v5, v6, v7] ∧ Same H3 H') ⟨v7, rfl, Same.refl _⟩ (fun j σ H' _ p => by obtain ⟨_, _, s'⟩ := p; exact SqL.of (s' _ _ hl)) ?_ ?_⟩
      · rintro j x σ H4 hx ⟨v7, rfl, s4⟩
        have hv' := hv x (List.mem_of_getElem? hx)
        refine ⟨_, rfl, x, .inl ⟨rfl, .inr ⟨.inr ⟨hv'.1.keep s4, hv'.2⟩, fun l2 H5 s5 hl2 => ?_⟩⟩⟩
        refine ⟨sz (by simp), fun m hm => ?_⟩
        have q := same_upd (o := .lst [.bl true, .str "text"]) hm
        exact eq_bs (neg := true) (q _ _ hl2) upd_same at_text ⟨_, rfl, iteF ⟨_, rfl, (s4.trans s5).trans q⟩⟩
      · rintro σ H4 ⟨v7, rfl, s4⟩
        exact k _
end
end Hv
namespace Hv
open PySem L2
structure FnIn (K : PySem.W.Frag) (x : Str) (st : Stmt) : Prop where
  ex : ∃ (f : Addr) (oc : Value) (od an : Option Addr) (osl : Array (Option Value)) (kV doc pm cdv ct : Value), PySem.W.nsIn K mainGlobals x = some (some (.ref f)) ∧
    K.lookup f = some ⟨oc, od, .func (PySem.W.fnOf x x (defArgs st) (defBody st) (defScope st) .none kV doc pm an cdv ct), osl⟩ ∧ PySem.W.codeIn K cdv x = true ∧ PySem.W.keepIn K (.ref f) = true
theorem fn_in {K : PySem.W.Frag} {x : Str} {st : Stmt} {f : Addr} {oc : Value} {od an : Option Addr} {osl : Array (Option Value)} {kV doc pm cdv ct : Value} (a : PySem.W.nsIn K mainGlobals x = some (some (.ref f)))
    (l : K.lookup f = some ⟨oc, od, .func (PySem.W.fnOf x x (defArgs st) (defBody st) (defScope st) .none kV doc pm an cdv ct), osl⟩) (c : PySem.W.codeIn K cdv x = true) (k : PySem.W.keepIn K (.ref f) = true) : FnIn K x st := ⟨f, oc, od, an, osl, kV, doc, pm, cdv, ct, a, l, c, k⟩
structure TxtIn (K : PySem.W.Frag) : Prop where
  isi : PySem.W.nsIn K mainGlobals "isinstance" = some none
  int : PySem.W.nsIn K mainGlobals "int" = some none
  bool : PySem.W.nsIn K mainGlobals "bool" = some none
  list : PySem.W.nsIn K mainGlobals "list" = some none
  tuple : PySem.W.nsIn K mainGlobals "tuple" = some none
  all : PySem.W.nsIn K mainGlobals "all" = some none
  len : PySem.W.nsIn K mainGlobals "len" = some none
  sum : PySem.W.nsIn K mainGlobals "sum" = some none
  range : PySem.W.nsIn K mainGlobals "range" = some none
  max : PySem.W.nsIn K mainGlobals "max" = some none
  min : PySem.W.nsIn K mainGlobals "min" = some none
  rev : PySem.W.nsIn K mainGlobals "reversed" = some none
  zip : PySem.W.nsIn K mainGlobals "zip" = some none
  enum : PySem.W.nsIn K mainGlobals "enumerate" = some none
theorem us0 {p : List Value → Prop} (h : p []) (us : List Value) (hl : us.length = 0) : p us := by rw [List.eq_nil_of_length_eq_zero hl]; exact h
theorem usS {n : Nat} {p : List Value → Prop} (h : ∀ a r, r.length = n → p (a :: r)) (us : List Value) (hl : us.length = n + 1) : p us := by
  cases us with
  | nil => cases hl
  | cons a r => exact h a r (Nat.succ.inj hl)
theorem us1 {p : List Value → Prop} (h : ∀ a, p [a]) : ∀ us : List Value, us.length = 1 → p us := usS fun a => us0 (p := fun r => p (a :: r)) (h a)
theorem us2 {p : List Value → Prop} (h : ∀ a b, p [a, b]) : ∀ us : List Value, us.length = 2 → p us := usS fun a => us1 (p := fun r => p (a :: r)) (h a)
theorem us3 {p : List Value → Prop} (h : ∀ a b c, p [a, b, c]) : ∀ us : List Value, us.length = 3 → p us := usS fun a => us2 (p := fun r => p (a :: r)) (h a)
section
variable {P : Program} {w : World} {K : PySem.W.Frag} {mg : Str → Option Value} {base h : Heap}
theorem TxtIn.txt (T : TxtIn K) (X : K.In h) (G : h.Ns mainGlobals mg) : Txt mg :=
  have e : ∀ x, PySem.W.nsIn K mainGlobals x = some none → mg x = none := fun x z => PySem.W.mg_none_of X G z
  ⟨e _ T.isi, e _ T.int, e _ T.bool, e _ T.list, e _ T.tuple, e _ T.all, e _ T.len, e _ T.sum, e _ T.range, e _ T.max, e _ T.min, e _ T.rev, e _ T.zip, e _ T.enum⟩
theorem def_of {x : Str} {st : Stmt} {k : Nat} {ps : List Str} {sp : Sp} (D : FnIn K x st) (X : K.In h) (G : h.Ns mainGlobals mg) (ok : ∀ f fd, Fun K x x st f fd → FnOk P w K mg base CX0 k f fd ps sp)
    (hb : ∀ (kV doc pm : Value) (an : Option Addr) (cdv ct : Value) (us : List Value), us.length = ps.length → bindArgs (PySem.W.fnOf x x (defArgs st) (defBody st) (defScope st) .none kV doc pm an cdv ct) ⟨us, []⟩ = pure (ps.zip us)) : Def P w K mg base k x ps sp := by
  obtain ⟨f, oc, od, an, osl, kV, doc, pm, cdv, ct, a, l, c, kp⟩ := D.ex
  have F := fun_mk (st := st) l c kp
  exact ⟨f, _, ok _ _ F, PySem.W.mg_of X G a, kp, F.binds hb⟩
end
end Hv
namespace Hv
open PySem L2
theorem def1_of {P : Program} {w : World} {K : PySem.W.Frag} {mg : Str → Option Value} {base h : Heap} {x : Str} {st : Stmt} {k : Nat} {ps : List Str} {sp : Sp} (D : FnIn K x st) (X : K.In h) (G : h.Ns mainGlobals mg) (ok : ∀ f fd, Fun K x x st f fd → FnOk P w K mg base (CX1 P w) k f fd ps sp)
    (hb : ∀ (kV doc pm : Value) (an : Option Addr) (cdv ct : Value) (us : List Value), us.length = ps.length → bindArgs (PySem.W.fnOf x x (defArgs st) (defBody st) (defScope st) .none kV doc pm an cdv ct) ⟨us, []⟩ = pure (ps.zip us)) : Def1 P w K mg base k x ps sp := by
  obtain ⟨f, oc, od, an, osl, kV, doc, pm, cdv, ct, a, l, c, kp⟩ := D.ex
  have F := fun_mk (st := st) l c kp
  exact ⟨f, _, ok _ _ F, PySem.W.mg_of X G a, kp, F.binds hb⟩
end Hv
namespace Hv
open PySem L2
theorem all_mk {l : PySem.W.OpenLaw} {w : World} {K : PySem.W.Frag} {h : Heap} {mg : Str → Option Value} {fa : Addr} (X : K.In h) (G : h.Ns mainGlobals mg) (hfa : mg "law" = some (.ref fa)) (TI : TxtIn K)
    (i0 : FnIn K "is_whole" sWhole)
    (i1 : FnIn K "is_between" sBetw)
    (i2 : FnIn K "is_list_between" sLBetw)
    (i3 : FnIn K "is_frame" sIsFrame)
    (i4 : FnIn K "need_frame" sNeedFrame)
    (i5 : FnIn K "is_written" sWritten)
    (i6 : FnIn K "is_written_with_sign" sWrittenS)
    (i7 : FnIn K "joined_by" sJoinedBy)
    (i8 : FnIn K "show_frame" sShowFrame)
    (i9 : FnIn K "is_writing" sIsWriting)
    (i10 : FnIn K "frame_or_none" sFrameOr)
    (i11 : FnIn K "read_frame" sReadFrame)
    (i12 : FnIn K "_law_cell" sCell)
    (i13 : FnIn K "_law_mixed" sMixed)
    (i14 : FnIn K "_law_frame" sFrame)
    (i15 : FnIn K "_law_written" sLawWritten)
    (i16 : FnIn K "_law_number" sLawNumber)
    (i17 : FnIn K "_law_writes" sLawWrites)
    (i18 : FnIn K "_law_odd" sLawOdd)
    (i19 : FnIn K "_law_given" sLawGiven)
    (i20 : FnIn K "_law_asked" sLawAsked)
    (i21 : FnIn K "_law_bad" sLawBad)
    {cB c0 c1 c2 c3 c4 c5 c6 c7 c8 c9 : Addr} (eB : PySem.W.nsIn K mainGlobals "HalfError" = some (some (.ref cB)))
    (e0 : PySem.W.nsIn K mainGlobals "NoFrame" = some (some (.ref c0)))
    (e1 : PySem.W.nsIn K mainGlobals "NoNumber" = some (some (.ref c1)))
    (e2 : PySem.W.nsIn K mainGlobals "NoPart" = some (some (.ref c2)))
    (e3 : PySem.W.nsIn K mainGlobals "NoSum" = some (some (.ref c3)))
    (e4 : PySem.W.nsIn K mainGlobals "NoMiss" = some (some (.ref c4)))
    (e5 : PySem.W.nsIn K mainGlobals "NoEven" = some (some (.ref c5)))
    (e6 : PySem.W.nsIn K mainGlobals "NoFrames" = some (some (.ref c6)))
    (e7 : PySem.W.nsIn K mainGlobals "NoText" = some (some (.ref c7)))
    (e8 : PySem.W.nsIn K mainGlobals "NoName" = some (some (.ref c8)))
    (e9 : PySem.W.nsIn K mainGlobals "NoRow" = some (some (.ref c9)))
    (tB : PySem.W.typeIn K (.ref cB) = some (.type "type")) (mB : PySem.W.mroIn K cB (.type "BaseException") = some true)
    (q0 : PySem.W.excIn K c0 [.type "ValueError", .type "Exception", .type "BaseException", .type "object"] "ValueError.__new__" = true) (m0 : PySem.W.mroIn K c0 (.ref cB) = some true) (l0 : ClsE K c0) (v0 : PySem.W.kitOne K (.ref c0) (.type "ValueError") = some true)
    (k0_0 : PySem.W.kitOne K (.ref c0) (.ref c0) = some true)
    (k0_1 : PySem.W.kitOne K (.ref c0) (.ref c1) = some false)
    (k0_2 : PySem.W.kitOne K (.ref c0) (.ref c2) = some false)
    (k0_3 : PySem.W.kitOne K (.ref c0) (.ref c3) = some false)
    (k0_4 : PySem.W.kitOne K (.ref c0) (.ref c4) = some false)
    (k0_5 : PySem.W.kitOne K (.ref c0) (.ref c5) = some false)
    (k0_6 : PySem.W.kitOne K (.ref c0) (.ref c6) = some false)
    (k0_7 : PySem.W.kitOne K (.ref c0) (.ref c7) = some false)
    (k0_8 : PySem.W.kitOne K (.ref c0) (.ref c8) = some false)
    (k0_9 : PySem.W.kitOne K (.ref c0) (.ref c9) = some false)
    (q7 : PySem.W.excIn K c7 [.type "ValueError", .type "Exception", .type "BaseException", .type "object"] "ValueError.__new__" = true) (m7 : PySem.W.mroIn K c7 (.ref cB) = some true) (l7 : ClsE K c7) (v7 : PySem.W.kitOne K (.ref c7) (.type "ValueError") = some true)
    (k7_0 : PySem.W.kitOne K (.ref c7) (.ref c0) = some false)
    (k7_1 : PySem.W.kitOne K (.ref c7) (.ref c1) = some false)
    (k7_2 : PySem.W.kitOne K (.ref c7) (.ref c2) = some false)
    (k7_3 : PySem.W.kitOne K (.ref c7) (.ref c3) = some false)
    (k7_4 : PySem.W.kitOne K (.ref c7) (.ref c4) = some false)
    (k7_5 : PySem.W.kitOne K (.ref c7) (.ref c5) = some false)
    (k7_6 : PySem.W.kitOne K (.ref c7) (.ref c6) = some false)
    (k7_7 : PySem.W.kitOne K (.ref c7) (.ref c7) = some true)
    (k7_8 : PySem.W.kitOne K (.ref c7) (.ref c8) = some false)
    (k7_9 : PySem.W.kitOne K (.ref c7) (.ref c9) = some false)
    (gFIGURES : ∃ t, PySem.W.nsIn K mainGlobals "FIGURES" = some (some (.str "0123456789" t)))
    (nstr : PySem.W.nsIn K mainGlobals "str" = some none)
    (nabs : PySem.W.nsIn K mainGlobals "abs" = some none)
    (nrepr : PySem.W.nsIn K mainGlobals "repr" = some none)
    (nValueError : PySem.W.nsIn K mainGlobals "ValueError" = some none)
    (jl : FnIn K "law" sLaw) :
    ∃ fd : FuncData, (∀ (s : Shared) (v : Value), BindsTo s fd ⟨[v], []⟩ [("script", v)]) ∧ ∀ base : Heap, K.In base → base.Ns mainGlobals mg → FnOk l.prog w K mg base CX0 8 fa fd ["script"] (spLaw K) := by
  have T := TI.txt X G
  obtain ⟨f, oc, od, an, osl, kV, doc, pm, cdv, ct, a, lk, c, kp⟩ := jl.ex
  have e := hfa.symm.trans (PySem.W.mg_of X G a)
  cases e
  have F := fun_mk (st := sLaw) lk c kp
  refine ⟨PySem.W.fnOf "law" "law" (defArgs sLaw) (defBody sLaw) (defScope sLaw) .none kV doc pm an cdv ct, fun s v => .of_eq rfl, fun base BX _ => ?_⟩
  have nstr : mg "str" = none := PySem.W.mg_none_of X G nstr
  have nabs : mg "abs" = none := PySem.W.mg_none_of X G nabs
  have nrepr : mg "repr" = none := PySem.W.mg_none_of X G nrepr
  have nValueError : mg "ValueError" = none := PySem.W.mg_none_of X G nValueError
  have gFIGURES : ∃ t, mg "FIGURES" = some (.str "0123456789" t) := gFIGURES.elim fun t z => ⟨t, PySem.W.mg_of X G z⟩
  have en : ErrNames mg (cs [c0, c1, c2, c3, c4, c5, c6, c7, c8, c9]) := ⟨PySem.W.mg_of X G e0, PySem.W.mg_of X G e1, PySem.W.mg_of X G e2, PySem.W.mg_of X G e3, PySem.W.mg_of X G e4, PySem.W.mg_of X G e5, PySem.W.mg_of X G e6, PySem.W.mg_of X G e7, PySem.W.mg_of X G e8, PySem.W.mg_of X G e9, nValueError⟩
  have o0 := own_e PySem.F.excBase_ValueError BX q0
  have u0 : Up K c0 cB := ⟨m0, mB, tB⟩
  have y0 : Kind K (cs [c0, c1, c2, c3, c4, c5, c6, c7, c8, c9]) c0 0 := ⟨l0, by decide, fun j hj => match j, hj with | 0, _ => k0_0 | 1, _ => k0_1 | 2, _ => k0_2 | 3, _ => k0_3 | 4, _ => k0_4 | 5, _ => k0_5 | 6, _ => k0_6 | 7, _ => k0_7 | 8, _ => k0_8 | 9, _ => k0_9, v0⟩
  have o7 := own_e PySem.F.excBase_ValueError BX q7
  have u7 : Up K c7 cB := ⟨m7, mB, tB⟩
  have y7 : Kind K (cs [c0, c1, c2, c3, c4, c5, c6, c7, c8, c9]) c7 7 := ⟨l7, by decide, fun j hj => match j, hj with | 0, _ => k7_0 | 1, _ => k7_1 | 2, _ => k7_2 | 3, _ => k7_3 | 4, _ => k7_4 | 5, _ => k7_5 | 6, _ => k7_6 | 7, _ => k7_7 | 8, _ => k7_8 | 9, _ => k7_9, v7⟩
  have d_is_whole : Def l.prog w K mg base 1 "is_whole" ["thing"] spWhole := def_of i0 X G (fun _ _ F => ok_whole F T) fun _ _ _ _ _ _ => us1 fun _ => rfl
  have d_is_between : Def l.prog w K mg base 2 "is_between" ["thing", "least", "greatest"] spBetw := def_of i1 X G (fun _ _ F => ok_betw F d_is_whole) fun _ _ _ _ _ _ => us3 fun _ _ _ => rfl
  have d_is_list_between : Def l.prog w K mg base 3 "is_list_between" ["thing", "least", "greatest"] spLBT := def_of i2 X G (fun _ _ F => ok_lbt F T d_is_between) fun _ _ _ _ _ _ => us3 fun _ _ _ => rfl
  have d_is_frame : Def l.prog w K mg base 4 "is_frame" ["thing"] spIFT := def_of i3 X G (fun _ _ F => ok_ift F T d_is_between d_is_list_between) fun _ _ _ _ _ _ => us1 fun _ => rfl
  have d_need_frame : Def l.prog w K mg base 5 "need_frame" ["thing"] spNeedFrame := def_of i4 X G (fun _ _ F => ok_needframe F (d_is_frame.less isf_ift)) fun _ _ _ _ _ _ => us1 fun _ => rfl
  have e_need_frame : Def1 l.prog w K mg base 5 "need_frame" ["thing"] (spOr spNeedFrame (spNo1 c0)) := def1_of i4 X G (fun _ _ F => (ok_needframe F (d_is_frame.less isf_ift)).up.or (ok_need1 F d_is_frame o0 en.n0)) fun _ _ _ _ _ _ => us1 fun _ => rfl
  have d_is_written : Def l.prog w K mg base 1 "is_written" ["text", "most"] spWrB := def_of i5 X G (fun _ _ F => ok_wrb F T gFIGURES) fun _ _ _ _ _ _ => us2 fun _ _ => rfl
  have d_is_written_with_sign : Def l.prog w K mg base 2 "is_written_with_sign" ["text", "most"] spWrS := def_of i6 X G (fun _ _ F => ok_wrs F d_is_written) fun _ _ _ _ _ _ => us2 fun _ _ => rfl
  have d_joined_by : Def l.prog w K mg base 1 "joined_by" ["sign", "numbers"] spJoinedBy := def_of i7 X G (fun _ _ F => ok_joinedby F nstr) fun _ _ _ _ _ _ => us2 fun _ _ => rfl
  have e_show_frame : Def1 l.prog w K mg base 6 "show_frame" ["frame"] (spOr spShow (spNo1 c0)) := def1_of i8 X G (fun _ _ F => (ok_show F nstr d_need_frame d_joined_by).up.or (ok_show1 F e_need_frame)) fun _ _ _ _ _ _ => us1 fun _ => rfl
  have d_is_writing : Def l.prog w K mg base 3 "is_writing" ["base", "parts", "weights"] spIsWG := def_of i9 X G (fun _ _ F => ok_iswg F T d_is_written d_is_written_with_sign) fun _ _ _ _ _ _ => us3 fun _ _ _ => rfl
  have d_frame_or_none : Def l.prog w K mg base 5 "frame_or_none" ["text"] spFrOr := def_of i10 X G (fun _ _ F => ok_fror F T nstr d_is_frame d_is_writing) fun _ _ _ _ _ _ => us1 fun _ => rfl
  have e_read_frame : Def1 l.prog w K mg base 6 "read_frame" ["text"] (spOr spRd (spNoRd c7)) := def1_of i11 X G (fun _ _ F => (ok_rd F d_frame_or_none).up.or (ok_rd1 F d_frame_or_none o7 en.n7)) fun _ _ _ _ _ _ => us1 fun _ => rfl
  have d_law_cell : Def l.prog w K mg base 1 "_law_cell" ["script", "k"] (spCell K) := def_of i12 X G (fun _ _ F => ok_cell F T) fun _ _ _ _ _ _ => us2 fun _ _ => rfl
  have d_law_mixed : Def l.prog w K mg base 1 "_law_mixed" ["cell", "k"] spMixed := def_of i13 X G (fun _ _ F => ok_mixed F) fun _ _ _ _ _ _ => us2 fun _ _ => rfl
  have d_law_frame : Def l.prog w K mg base 2 "_law_frame" ["cell", "most"] spFrame38 := def_of i14 X G (fun _ _ F => ok_frame F T d_law_mixed) fun _ _ _ _ _ _ => us2 fun _ _ => rfl
  have d_law_written : Def l.prog w K mg base 1 "_law_written" ["frame"] spShow := def_of i15 X G (fun _ _ F => ok_writtenl F nstr) fun _ _ _ _ _ _ => us1 fun _ => rfl
  have d_law_number : Def l.prog w K mg base 1 "_law_number" ["word"] spNum := def_of i16 X G (fun _ _ F => ok_num F T) fun _ _ _ _ _ _ => us1 fun _ => rfl
  have d_law_writes : Def l.prog w K mg base 2 "_law_writes" ["text"] spWrites := def_of i17 X G (fun _ _ F => ok_writes F T d_law_number) fun _ _ _ _ _ _ => us1 fun _ => rfl
  have d_law_odd : Def l.prog w K mg base 1 "_law_odd" ["cell"] spOddT := def_of i18 X G (fun _ _ F => ok_oddt F T) fun _ _ _ _ _ _ => us1 fun _ => rfl
  have d_law_given : Def l.prog w K mg base 3 "_law_given" ["cell"] spGiven := def_of i19 X G (fun _ _ F => ok_given F T d_law_odd d_law_mixed d_law_frame d_law_written) fun _ _ _ _ _ _ => us1 fun _ => rfl
  have d_law_asked : Def l.prog w K mg base 7 "_law_asked" ["ask", "thing"] spAsk := def_of i20 X G (fun _ _ F => ok_asked (c := (cs [c0, c1, c2, c3, c4, c5, c6, c7, c8, c9])) F T en (PySem.W.mg_of X G eB) u0 u7 y0 y7 e_read_frame e_show_frame) fun _ _ _ _ _ _ => us2 fun _ _ => rfl
  have d_law_bad : Def l.prog w K mg base 1 "_law_bad" ["frame", "cell"] spBad := def_of i21 X G (fun _ _ F => ok_bad F T nstr) fun _ _ _ _ _ _ => us2 fun _ _ => rfl
  exact ok_law F T nrepr nabs d_law_cell d_law_mixed d_law_frame d_law_given d_law_asked d_law_writes d_law_bad
theorem walk {l : PySem.W.OpenLaw} {q : Program} {loose : List Str} {XP : (Str → Option Value) → Heap → Prop} {YP : World → Heap → Prop} {d : DefRec} {K : Params → PySem.W.Frag} (hn : l.most = some 63) (hdf : d.params.defaults = [])
    (hY : ∀ (w : World) (h : Heap), YP w h → (K w.params).In h)
    (F : ∀ (w : World) (mg : Str → Option Value) (fa : Addr) (h : Heap), (K w.params).In h → h.Ns mainGlobals mg → mg d.name = some (.ref fa) →
      ∃ fd : FuncData, (∀ (s : Shared) (u : Value), BindsTo s fd ⟨[u], []⟩ [("script", u)]) ∧ ∀ base : Heap, (K w.params).In base → base.Ns mainGlobals mg → FnOk l.prog w (K w.params) mg base CX0 8 fa fd ["script"] (spLaw (K w.params))) :
    PySem.W.WalkO q loose XP YP l.row.toRowW d [] (fun f vs => PySem.call f vs) :=
  L2.walk_of (n := 63) (k := 8) (x := "script") (CX := fun _ => CX0) (sp := fun w => spLaw (K w.params)) hn (by decide) hdf ⟨rfl, by decide, by decide, rfl⟩ hY F (fun _ _ a ns hl _ hS => ⟨a, ns, rfl, hS, hl, fun _ => rfl⟩) fun _ _ _ _ _ z => z
end Hv
open PySem PySem.W PyProof.Rows
theorem PySem.W.Fast.tw9897599192093861280 : True := trivial
theorem PySem.W.Fast.tw878623207218235564 : True := trivial
theorem PySem.W.Fast.tw15836509495289352558 : True := trivial
theorem PySem.W.Fast.tw3006396159664575644 : True := trivial
theorem PySem.W.Fast.tw13963246003351592403 : True := trivial
theorem PySem.W.Fast.tw11415480036064015788 : True := trivial
theorem PySem.W.Fast.tw5729268083797395534 : True := trivial
theorem PySem.W.Fast.tw6802323671898625710 : True := trivial
theorem PySem.W.Fast.tw2713688851451656401 : True := trivial
theorem PySem.W.Fast.tw8509765679098578306 : True := trivial
theorem PySem.W.Fast.tw7492313118362622818 : True := trivial
theorem PySem.W.Fast.tw14705171616978980243 : True := trivial
theorem PySem.W.Fast.tw18148073671985409946 : True := trivial
theorem PySem.W.Fast.tw14924955299019949190 : True := trivial
theorem PySem.W.Fast.tw11474546969890717151 : True := trivial
theorem PySem.W.Fast.tw2455807892497791787 : True := trivial
theorem PySem.W.Fast.tw13966110298135694711 : True := trivial
theorem PySem.W.Fast.tw9373942117439137845 : True := trivial
theorem PySem.W.Fast.tw820699824712671812 : True := trivial
theorem PySem.W.Fast.tw6379657241288649163 : True := trivial
theorem PySem.W.Fast.tw12733127678687843874 : True := trivial
theorem PySem.W.Fast.tw8303620058937052117 : True := trivial
theorem PySem.W.Fast.tw7467132998310711312 : True := trivial
theorem PySem.W.Fast.tw5055753622964748427 : True := trivial
theorem PySem.W.Fast.tw10028346365201296798 : True := trivial
theorem PySem.W.Fast.tw461694176347455422 : True := trivial
theorem PySem.W.Fast.tw3006039520886765269 : True := trivial
theorem PySem.W.Fast.tw10887510458763654970 : True := trivial
theorem PySem.W.Fast.tw3465463117925969706 : True := trivial
theorem PySem.W.Fast.tw7644709116530227057 : True := trivial
theorem PySem.W.Fast.tw17044933340082601576 : True := trivial
theorem PySem.W.Fast.tw4281863787166804246 : True := trivial
theorem PySem.W.Fast.tw12445252044152045704 : True := trivial
theorem PySem.W.Fast.tw13884935315463248594 : True := trivial
theorem PySem.W.Fast.tw13383152547794130991 : True := trivial
theorem PySem.W.Fast.tw15556222553148240955 : True := trivial
theorem PySem.W.Fast.tw1049128216145384037 : True := trivial
theorem PySem.W.Fast.tw3474730528711951836 : True := trivial
theorem PySem.W.Fast.tw2397972757110214802 : True := trivial
theorem PySem.W.Fast.tw1709050101696650377 : True := trivial
theorem PySem.W.Fast.tw16639365382625279793 : True := trivial
theorem PySem.W.Fast.tw11943885013754266828 : True := trivial
theorem PySem.W.Fast.tw10224140227827497743 : True := trivial
theorem PySem.W.Fast.tw11831712565318882999 : True := trivial
theorem PySem.W.Fast.tw6617774839799064687 : True := trivial
theorem PySem.W.Fast.tw7650879220060324840 : True := trivial
theorem PySem.W.Fast.tw16178930546356128075 : True := trivial
theorem PySem.W.Fast.tw4900536345841670365 : True := trivial
theorem PySem.W.Fast.tw6395528067594853265 : True := trivial
theorem PySem.W.Fast.tw8999185424848525412 : True := trivial
theorem PySem.W.Fast.tw17555035058614423450 : True := trivial
theorem PySem.W.Fast.tw9845363781947768139 : True := trivial
theorem PySem.W.Fast.tw4085002505688150623 : True := trivial
theorem PySem.W.Fast.tw1013153327916461094 : True := trivial
theorem PySem.W.Fast.tw2997541862499511127 : True := trivial
theorem PySem.W.Fast.tw13602673245155548172 : True := trivial
theorem PySem.W.Fast.tw14715230833775496744 : True := trivial
theorem PySem.W.Fast.tw17731858190984539734 : True := trivial
theorem PySem.W.Fast.tw8108097653849653166 : True := trivial
theorem PySem.W.Fast.tw15249891478539766865 : True := trivial
theorem PySem.W.Fast.tw12622284720672387711 : True := trivial
theorem PySem.W.Fast.tw11884800993394407191 : True := trivial
theorem PySem.W.Fast.tw12981745836957019657 : True := trivial
theorem PySem.W.Fast.tw13788920945426770618 : True := trivial
theorem PySem.W.Fast.tw12704082353401001938 : True := trivial
theorem PySem.W.Fast.tw2341087967468792725 : True := trivial
theorem PySem.W.Fast.tw15597920956667022861 : True := trivial
theorem PySem.W.Fast.tw13249628183526826098 : True := trivial
theorem PySem.W.Fast.tw11462464886082849762 : True := trivial
theorem PySem.W.Fast.tw2055914479735517100 : True := trivial
theorem PySem.W.Fast.tw623528584978026284 : True := trivial
theorem PySem.W.Fast.tw6733293035417388428 : True := trivial
theorem PySem.W.Fast.tw6830361234009537129 : True := trivial
theorem PySem.W.Fast.tw16910102041618448913 : True := trivial
theorem PySem.W.Fast.tw3885777349349233182 : True := trivial
theorem PySem.W.Fast.tw7237891480633373253 : True := trivial
theorem PySem.W.Fast.tw15227543365827105559 : True := trivial
theorem PySem.W.Fast.tw9498832285544928583 : True := trivial
theorem PySem.W.Fast.tw2933132958000596912 : True := trivial
theorem PySem.W.Fast.tw14001789121131842078 : True := trivial
theorem PySem.W.Fast.tw13604984234403035535 : True := trivial
theorem PySem.W.Fast.tw5409186150608794349 : True := trivial
theorem PySem.W.Fast.tw10990668944516399126 : True := trivial
theorem PySem.W.Fast.tw13209677689110628689 : True := trivial
theorem PySem.W.Fast.tw68712542072906443 : True := trivial
theorem PySem.W.Fast.tw9977664241311646391 : True := trivial
theorem PySem.W.Fast.tw12062466098898707564 : True := trivial
theorem PySem.W.Fast.tw8546725903897111191 : True := trivial
theorem PySem.W.Fast.tw477088741657913496 : True := trivial
theorem PySem.W.Fast.tw17050329274628054177 : True := trivial
theorem PySem.W.Fast.tw7593238602173949441 : True := trivial
theorem PySem.W.Fast.tw5473438465667780300 : True := trivial
theorem PySem.W.Fast.tw5927895740414939638 : True := trivial
theorem PySem.W.Fast.tw12343156382298895702 : True := trivial
theorem PySem.W.Fast.tw164572893976404359 : True := trivial
theorem PySem.W.Fast.tw859385402200309587 : True := trivial
theorem PySem.W.Fast.tw12627809944506745189 : True := trivial
theorem PySem.W.Fast.tw7395526093756031993 : True := trivial
theorem PySem.W.Fast.tw6036484469570596714 : True := trivial
theorem PySem.W.Fast.tw11220481062137194255 : True := trivial
theorem PySem.W.Fast.tw4926393739237420009 : True := trivial
theorem PySem.W.Fast.tw8482538631311011811 : True := trivial
theorem PySem.W.Fast.tw4713490456405334777 : True := trivial
theorem PySem.W.Fast.tw13135066793037311556 : True := trivial
theorem PySem.W.Fast.tw8892605385697512665 : True := trivial
theorem PySem.W.Fast.tw11663944366891648472 : True := trivial
theorem PySem.W.Fast.tw8349214360784941346 : True := trivial
theorem PySem.W.Fast.tw17258248883675343325 : True := trivial
theorem PySem.W.Fast.tw9324272365035324942 : True := trivial
theorem PySem.W.Fast.tw10568450679340697520 : True := trivial
theorem PySem.W.Fast.tw15907134296304375617 : True := trivial
theorem PySem.W.Fast.tw8787185697028903044 : True := trivial
theorem PySem.W.Fast.tw9108027014514478047 : True := trivial
theorem PySem.W.Fast.tw1639553472348612541 : True := trivial
theorem PySem.W.Fast.tw8497784177924236785 : True := trivial
theorem PySem.W.Fast.tw13694745923978755845 : True := trivial
theorem PySem.W.Fast.tw15194178736029746657 : True := trivial
theorem PySem.W.Fast.tw13250896704759564445 : True := trivial
theorem PySem.W.Fast.tw13794161299907301529 : True := trivial
theorem PySem.W.Fast.tw17722066176706701412 : True := trivial
theorem PySem.W.Fast.tw15792811234343353039 : True := trivial
theorem PySem.W.Fast.tw18104420263373045244 : True := trivial
theorem PySem.W.Fast.tw9731556071269997804 : True := trivial
theorem PySem.W.Fast.tw5135121285999999907 : True := trivial
theorem PySem.W.Fast.tw17486888926572659685 : True := trivial
theorem PySem.W.Fast.tw7227119857055662185 : True := trivial
theorem PySem.W.Fast.tw4304958145812785030 : True := trivial
theorem PySem.W.Fast.tw8216840255270865866 : True := trivial
theorem PySem.W.Fast.tw9023833706383591716 : True := trivial
theorem PySem.W.Fast.tw13354637651318942688 : True := trivial
theorem PySem.W.Fast.tw15337229120331203626 : True := trivial
theorem PySem.W.Fast.tw13237910762914850004 : True := trivial
theorem PySem.W.Fast.tw14701673256895685136 : True := trivial
theorem PySem.W.Fast.tw5706095933937944991 : True := trivial
theorem PySem.W.Fast.tw14182257487745610515 : True := trivial
theorem PySem.W.Fast.tw5583070622989461718 : True := trivial
theorem PySem.W.Fast.tw8128861660863141070 : True := trivial
theorem PySem.W.Fast.tw9523671533177691554 : True := trivial
theorem PySem.W.Fast.tw16504742983280183711 : True := trivial
theorem PySem.W.Fast.tw14051210996005100113 : True := trivial
theorem PySem.W.Fast.tw13836582097158327321 : True := trivial
theorem PySem.W.Fast.tw3737977034510015367 : True := trivial
theorem PySem.W.Fast.tw11381852848487724966 : True := trivial
theorem PySem.W.Fast.tw12084004836196284555 : True := trivial
theorem PySem.W.Fast.tw1942322607337695249 : True := trivial
theorem PySem.W.Fast.tw17837946957632035138 : True := trivial
theorem PySem.W.Fast.tw11401069569265010239 : True := trivial
theorem PySem.W.Fast.tw17156725951822446198 : True := trivial
theorem PySem.W.Fast.tw13226691440463006058 : True := trivial
theorem PySem.W.Fast.tw11572248246217068992 : True := trivial
theorem PySem.W.Fast.tw10717192693342758141 : True := trivial
theorem PySem.W.Fast.tw16266288602325496200 : True := trivial
theorem PySem.W.Fast.tw13426216222233464738 : True := trivial
theorem PySem.W.Fast.tw11167024362515627497 : True := trivial
theorem PySem.W.Fast.tw7973597763795143772 : True := trivial
theorem PySem.W.Fast.tw12715336333029288546 : True := trivial
theorem PySem.W.Fast.tw4223628676543906298 : True := trivial
theorem PySem.W.Fast.tw9720598872380512599 : True := trivial
theorem PySem.W.Fast.tw3599004916315754904 : True := trivial
theorem PySem.W.Fast.tw6848447186824588387 : True := trivial
theorem PySem.W.Fast.tw9873307655258392555 : True := trivial
theorem PySem.W.Fast.tw6266989551808678968 : True := trivial
theorem PySem.W.Fast.tw17422589150894753381 : True := trivial
theorem PySem.W.Fast.tw301566536862271989 : True := trivial
theorem PySem.W.Fast.tw15483091680648782123 : True := trivial
theorem PySem.W.Fast.tw5370901825624967462 : True := trivial
theorem PySem.W.Fast.tw4033092703250927630 : True := trivial
theorem PySem.W.Fast.tw5416960476404876070 : True := trivial
theorem PySem.W.Fast.tw4698334248898115615 : True := trivial
theorem PySem.W.Fast.tw13236529110074660374 : True := trivial
theorem PySem.W.Fast.tw4212425240150733020 : True := trivial
theorem PySem.W.Fast.tw1755620537505796637 : True := trivial
theorem PySem.W.Fast.tw18310260397451317028 : True := trivial
theorem PySem.W.Fast.tw18292186219821292715 : True := trivial
theorem PySem.W.Fast.tw18143045888725152532 : True := trivial
theorem PySem.W.Fast.tw10284045574051825016 : True := trivial
theorem PySem.W.Fast.tw6264931320913279183 : True := trivial
theorem PySem.W.Fast.tw7390332653748899376 : True := trivial
theorem PySem.W.Fast.tw5927686617547895085 : True := trivial
theorem PySem.W.Fast.tw15416855090663815416 : True := trivial
theorem PySem.W.Fast.tw637883876171943911 : True := trivial
theorem PySem.W.Fast.tw17816597435727717431 : True := trivial
theorem PySem.W.Fast.tw14360907041143752533 : True := trivial
theorem PySem.W.Fast.tw10690144925470081637 : True := trivial
theorem PySem.W.Fast.tw12092149524129450280 : True := trivial
theorem PySem.W.Fast.tw3252654616080702411 : True := trivial
theorem PySem.W.Fast.tw8902968082386299056 : True := trivial
theorem PySem.W.Fast.tw17054618221482696721 : True := trivial
theorem PySem.W.Fast.tw12908764378476371640 : True := trivial
theorem PySem.W.Fast.tw11066423681188211771 : True := trivial
theorem PySem.W.Fast.tw11338749885136256338 : True := trivial
theorem PySem.W.Fast.tw9947990740142900955 : True := trivial
theorem PySem.W.Fast.tw2342434976889782796 : True := trivial
theorem PySem.W.Fast.tw16095916820038707826 : True := trivial
theorem PySem.W.Fast.tw16078040936332818717 : True := trivial
theorem PySem.W.Fast.tw8085233160453472983 : True := trivial
theorem PySem.W.Fast.tw2801057021146667916 : True := trivial
theorem PySem.W.Fast.tw10831252329845422378 : True := trivial
theorem PySem.W.Fast.tw6796025175488218257 : True := trivial
theorem PySem.W.Fast.tw6087176978688498482 : True := trivial
theorem PySem.W.Fast.tw13234289575559215847 : True := trivial
theorem PySem.W.Fast.tw2573051041190437878 : True := trivial
theorem PySem.W.Fast.tw14144086769472517717 : True := trivial
theorem PySem.W.Fast.tw5880594084848002534 : True := trivial
theorem PySem.W.Fast.tw16347550993580842854 : True := trivial
theorem PySem.W.Fast.tw12415808169306468477 : True := trivial
theorem PySem.W.Fast.tw8883964361034130316 : True := trivial
theorem PySem.W.Fast.tw4794904469552373127 : True := trivial
theorem PySem.W.Fast.tw12816711275331726961 : True := trivial
theorem PySem.W.Fast.tw10049274879189052469 : True := trivial
theorem PySem.W.Fast.tw17393203425951878354 : True := trivial
theorem PySem.W.Fast.tw3765746311081947758 : True := trivial
theorem PySem.W.Fast.tw279613593239987625 : True := trivial
theorem PySem.W.Fast.tw9692461399163088093 : True := trivial
theorem PySem.W.Fast.tw18211848450845470658 : True := trivial
theorem PySem.W.Fast.tw3237556551513077247 : True := trivial
theorem PySem.W.Fast.tw3371907343423068183 : True := trivial
theorem PySem.W.Fast.tw12548225207506446422 : True := trivial
theorem PySem.W.Fast.tw6152528304585032160 : True := trivial
theorem PySem.W.Fast.tw6848771503265829241 : True := trivial
theorem PySem.W.Fast.tw14565595559743854151 : True := trivial
theorem PySem.W.Fast.tw9385073942140326635 : True := trivial
theorem PySem.W.Fast.tw4526819754558862249 : True := trivial
theorem PySem.W.Fast.tw3576925090275409751 : True := trivial
theorem PySem.W.Fast.tw8842238497421130007 : True := trivial
theorem PySem.W.Fast.tw11394064492679814942 : True := trivial
theorem PySem.W.Fast.tw9653770867299684038 : True := trivial
theorem PySem.W.Fast.tw3694679304066745656 : True := trivial
theorem PySem.W.Fast.tw1649713044421711319 : True := trivial
theorem PySem.W.Fast.tw6841567472678123342 : True := trivial
theorem PySem.W.Fast.tw17518886751884897310 : True := trivial
theorem PySem.W.Fast.tw2205557242239877325 : True := trivial
theorem PySem.W.Fast.tw12327784380639862920 : True := trivial
theorem PySem.W.Fast.tw17697762633498141899 : True := trivial
theorem PySem.W.Fast.tw1512110834509331199 : True := trivial
theorem PySem.W.Fast.tw1364196515092513083 : True := trivial
theorem PySem.W.Fast.tw11670531970336354586 : True := trivial
theorem PySem.W.Fast.tw2790740623501638328 : True := trivial
theorem PySem.W.Fast.tw3071411448722523089 : True := trivial
theorem PySem.W.Fast.tw5023630421304567381 : True := trivial
theorem PySem.W.Fast.tw17617310019255093003 : True := trivial
theorem PySem.W.Fast.tw7290579973728182050 : True := trivial
theorem PySem.W.Fast.tw10941911807437749047 : True := trivial
theorem PySem.W.Fast.tw7960309943767958409 : True := trivial
theorem PySem.W.Fast.tw12162242923412048001 : True := trivial
theorem PySem.W.Fast.tw13516412410259944480 : True := trivial
theorem PySem.W.Fast.tw1795099364234267413 : True := trivial
theorem PySem.W.Fast.tw13324366991403024785 : True := trivial
theorem PySem.W.Fast.tw3932501623242509509 : True := trivial
theorem PySem.W.Fast.tw6600832911474593266 : True := trivial
theorem PySem.W.Fast.tw7533679734437415374 : True := trivial
theorem PySem.W.Fast.tw9679157370565458511 : True := trivial
theorem PySem.W.Fast.tw7010783200782127380 : True := trivial
theorem PySem.W.Fast.tw6477119701071499522 : True := trivial
theorem PySem.W.Fast.tw11863217332000002006 : True := trivial
theorem PySem.W.Fast.tw18333340236093881522 : True := trivial
theorem PySem.W.Fast.tw14175375992242527810 : True := trivial
theorem PySem.W.Fast.tw8996971297400645579 : True := trivial
theorem PySem.W.Fast.tw9685958784379995885 : True := trivial
theorem PySem.W.Fast.tw18373445321861996491 : True := trivial
theorem PySem.W.Fast.tw262165554049011643 : True := trivial
theorem PySem.W.Fast.tw4412214136903603398 : True := trivial
theorem PySem.W.Fast.tw7706819929873464577 : True := trivial
theorem PySem.W.Fast.tw2079931571200163607 : True := trivial
theorem PySem.W.Fast.tw6908843686789480356 : True := trivial
theorem PySem.W.Fast.tw16371822279162199514 : True := trivial
theorem PySem.W.Fast.tw3188305647082585150 : True := trivial
theorem PySem.W.Fast.tw2746142021144019624 : True := trivial
theorem PySem.W.Fast.tw17602575449378122345 : True := trivial
theorem PySem.W.Fast.tw3414381230481991620 : True := trivial
theorem PySem.W.Fast.tw6802993152582153575 : True := trivial
theorem PySem.W.Fast.tw17137815647121795649 : True := trivial
theorem PySem.W.Fast.tw7505463387274771260 : True := trivial
theorem PySem.W.Fast.tw6220924603820372936 : True := trivial
theorem PySem.W.Fast.tw11643772716597629055 : True := trivial
theorem PySem.W.Fast.tw12516231143126371957 : True := trivial
theorem PySem.W.Fast.tw16057665152109633797 : True := trivial
theorem PySem.W.Fast.tw6784481868992880620 : True := trivial
theorem PySem.W.Fast.tw7523355266356102975 : True := trivial
theorem PySem.W.Fast.tw15933131038228693505 : True := trivial
theorem PySem.W.Fast.tw15723943043030856566 : True := trivial
theorem PySem.W.Fast.tw9020551925182033222 : True := trivial
theorem PySem.W.Fast.tw8132788270596328350 : True := trivial
theorem PySem.W.Fast.tw15475537962906494496 : True := trivial
theorem PySem.W.Fast.tw15602427215229604281 : True := trivial
theorem PySem.W.Fast.tw15816711551429838304 : True := trivial
theorem PySem.W.Fast.tw15359718606424889485 : True := trivial
theorem PySem.W.Fast.tw8112590055021292241 : True := trivial
theorem PySem.W.Fast.tw15359435600056500349 : True := trivial
theorem PySem.W.Fast.tw16345649524353856690 : True := trivial
theorem PySem.W.Fast.tw3010952893210405455 : True := trivial
theorem PySem.W.Fast.tw13229816127911483902 : True := trivial
theorem PySem.W.Fast.tw3122159005415668970 : True := trivial
theorem PySem.W.Fast.tw3324841013888798333 : True := trivial
theorem PySem.W.Fast.tw1956320176548063726 : True := trivial
theorem PySem.W.Fast.tw7137580516813055217 : True := trivial
theorem PySem.W.Fast.tw16433835387197520510 : True := trivial
theorem PySem.W.Fast.tw2019530598881145139 : True := trivial
theorem PySem.W.Fast.tw17891461820606084680 : True := trivial
theorem PySem.W.Fast.tw14854290442159212146 : True := trivial
theorem PySem.W.Fast.tw16610903094492797554 : True := trivial
theorem PySem.W.Fast.tw15308417949306899065 : True := trivial
theorem PySem.W.Fast.tw13751952950773774561 : True := trivial
theorem PySem.W.Fast.tw3145683609095303825 : True := trivial
set_option maxRecDepth 100000 in
set_option maxHeartbeats 0 in
theorem PySem.Challenge.cw_likehalves_k39_texts_that_write_no_frame_holds : PySem.Challenge.rw_likehalves_k39_texts_that_write_no_frame.Holds := by
  w_on; o_law; k_head; (case hw => w_witness2)
  k_fill
  refine Hv.walk (l := PySem.Challenge.rw_likehalves_k39_texts_that_write_no_frame) rfl rfl (fun w h Y => PySem.W.kIn_of Y) ?F
  case F =>
    intro w mg fa h KX G hmg
    refine' Hv.all_mk KX G hmg ?t ?i0 ?i1 ?i2 ?i3 ?i4 ?i5 ?i6 ?i7 ?i8 ?i9 ?i10 ?i11 ?i12 ?i13 ?i14 ?i15 ?i16 ?i17 ?i18 ?i19 ?i20 ?i21 ?eB ?e0 ?e1 ?e2 ?e3 ?e4 ?e5 ?e6 ?e7 ?e8 ?e9 ?tB ?mB ?q0 ?m0 ?l0 ?v0 ?k0_0 ?k0_1 ?k0_2 ?k0_3 ?k0_4 ?k0_5 ?k0_6 ?k0_7 ?k0_8 ?k0_9 ?q7 ?m7 ?l7 ?v7 ?k7_0 ?k7_1 ?k7_2 ?k7_3 ?k7_4 ?k7_5 ?k7_6 ?k7_7 ?k7_8 ?k7_9 ?gFIGURES ?nstr ?nabs ?nrepr ?nValueError ?jl
    case eB => k_is
    case e0 => k_is
    case e1 => k_is
    case e2 => k_is
    case e3 => k_is
    case e4 => k_is
    case e5 => k_is
    case e6 => k_is
    case e7 => k_is
    case e8 => k_is
    case e9 => k_is
    case tB => k_is
    case mB => k_is
    case q0 => kernel_rfl
    case m0 => k_is
    case l0 => exact ⟨by k_is, by k_is, by kernel_rfl, by k_is, by k_is⟩
    case v0 => kernel_rfl
    case k0_0 => kernel_rfl
    case k0_1 => kernel_rfl
    case k0_2 => kernel_rfl
    case k0_3 => kernel_rfl
    case k0_4 => kernel_rfl
    case k0_5 => kernel_rfl
    case k0_6 => kernel_rfl
    case k0_7 => kernel_rfl
    case k0_8 => kernel_rfl
    case k0_9 => kernel_rfl
    case q7 => kernel_rfl
    case m7 => k_is
    case l7 => exact ⟨by k_is, by k_is, by kernel_rfl, by k_is, by k_is⟩
    case v7 => kernel_rfl
    case k7_0 => kernel_rfl
    case k7_1 => kernel_rfl
    case k7_2 => kernel_rfl
    case k7_3 => kernel_rfl
    case k7_4 => kernel_rfl
    case k7_5 => kernel_rfl
    case k7_6 => kernel_rfl
    case k7_7 => kernel_rfl
    case k7_8 => kernel_rfl
    case k7_9 => kernel_rfl
    case gFIGURES => exact ⟨_, by k_is⟩
    case nstr => k_is
    case nabs => k_is
    case nrepr => k_is
    case nValueError => k_is
    case t => refine ⟨?_, ?_, ?_, ?_, ?_, ?_, ?_, ?_, ?_, ?_, ?_, ?_, ?_, ?_⟩ <;> k_is
    all_goals
      refine' Hv.fn_in ?a ?l ?c ?k
      (case a => k_is); (case l => k_is); (case c => k_is); (case k => k_is)
#print axioms PySem.Challenge.cw_likehalves_k39_texts_that_write_no_frame_holds
